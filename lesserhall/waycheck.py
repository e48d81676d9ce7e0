"""Whether a list of standings shows what can't be come to."""

from lesserhall.halls import is_standing
from lesserhall.plain import rises
from lesserhall.turns import turned


def shows_never(hall, standing, person, number, thing):
    """Whether a thing is a rising list of standings, that one too, that no turn leaves and that lack the number."""
    if not isinstance(thing, list) or not all([is_standing(hall, one) for one in thing]):
        return False
    if not rises(thing) or standing not in thing:
        return False
    if any([one[person] == number for one in thing]):
        return False
    return no_turn_leaves(hall, thing)


def no_turn_leaves(hall, standings):
    """Whether each single turn of each of the standings leads to one of them."""
    known = set(standings)
    for one in standings:
        for person in range(len(hall)):
            if turned(hall, one, [person]) not in known:
                return False
    return True
