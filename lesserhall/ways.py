"""What single turns come to."""

from lesserhall.errors import TooMany
from lesserhall.limits import MOST_STANDINGS
from lesserhall.turns import is_rest, turned


def ways_from(hall, standing):
    """All standings that can be come to: of each the pair (the one ahead, whose turn leads on), None of the first.

    The nearest ones come first and, among equally near ones, those whose turns rise first; so each way back is that
    of the first of the shortest lists of turns.
    """
    ways = {standing: None}
    waiting = [standing]
    at = 0
    while at < len(waiting):
        for person in range(len(hall)):
            behind = turned(hall, waiting[at], [person])
            if behind not in ways:
                ways[behind] = (waiting[at], person)
                waiting.append(behind)
        if len(ways) > MOST_STANDINGS:
            raise TooMany(MOST_STANDINGS)
        at += 1
    return ways


def come_to(hall, standing):
    """The rising list of all standings that single turns can come to, that one too."""
    return sorted(list(ways_from(hall, standing)))


def rests_come_to(hall, standing):
    """The rising list of the rests that single turns can come to."""
    return [one for one in come_to(hall, standing) if is_rest(hall, one)]


def least_turns(hall, standing, other):
    """The first of the shortest lists of persons whose turns lead to the other standing, None where none do."""
    ways = ways_from(hall, standing)
    if other not in ways:
        return None
    turns = []
    way = ways[other]
    while way is not None:
        ahead, person = way
        turns.append(person)
        way = ways[ahead]
    return turns[::-1]


def most_shown(hall, standing, person):
    """The greatest number that person can come to show."""
    return max([one[person] for one in come_to(hall, standing)])
