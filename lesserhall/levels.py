"""Towers: rests told from below, level by level."""

from lesserhall.errors import TooMany
from lesserhall.limits import MOST_RESTS
from lesserhall.plain import are_persons, is_number, rises, unlike
from lesserhall.rules import told_of


def tower_of(standing):
    """The tower of all persons, by the numbers they show."""
    return [(number, showing(standing, number)) for number in sorted(set(standing))]


def showing(standing, number):
    """The rising tuple of those who show that number."""
    return tuple([person for person, shown in enumerate(standing) if shown == number])


def shown_on(tower):
    """The number of each person of a tower, by persons."""
    return {person: number for number, persons in tower for person in persons}


def standing_of(tower):
    """The standing of a tower of all persons."""
    shown = shown_on(tower)
    return tuple([shown[person] for person in range(len(shown))])


def told_by(hall, shown, person):
    """The number that person's rule tells of all those it sees whose number is told."""
    lot = [(other, shown[other]) for other in hall.sees(person) if other in shown]
    return told_of(hall.rule(person), lot)


def is_level(many, thing):
    """Whether a thing is a pair of a number and a rising tuple of persons of so many, not bare."""
    if not isinstance(thing, tuple) or len(thing) != 2:
        return False
    return is_number(thing[0]) and are_persons(many, thing[1]) and len(thing[1]) > 0


def is_tower(many, thing):
    """Whether a thing is a tower of persons of so many."""
    if not isinstance(thing, list) or not all([is_level(many, level) for level in thing]):
        return False
    if not rises([number for number, persons in thing]):
        return False
    return unlike([person for number, persons in thing for person in persons])


def is_sound(hall, thing):
    """Whether a thing is a tower of persons of the hall, each told its number by those below."""
    if not is_tower(len(hall), thing):
        return False
    shown = {}
    for number, persons in thing:
        if any([told_by(hall, shown, person) != number for person in persons]):
            return False
        for person in persons:
            shown[person] = number
    return True


def highest_of(tower):
    """The number of the highest level, one below all numbers of a bare tower."""
    return tower[-1][0] if tower else -1


def next_levels(hall, tower):
    """The rising list of pairs (number, person) of those whose rule tells a number above a sound tower."""
    shown = shown_on(tower)
    told = [(told_by(hall, shown, person), person) for person in range(len(hall)) if person not in shown]
    return sorted([pair for pair in told if pair[0] > highest_of(tower)])


def at_number(levels, number):
    """The list of those persons of the pairs whose number is that."""
    return [person for other, person in levels if other == number]


def plain_rest(hall):
    """The rest built from below: at each number all are put of whom it's told by those below."""
    tower = []
    levels = next_levels(hall, tower)
    # Nobody is passed by: a rule never tells less of more, so who isn't put is told a number above still.
    while levels:
        lowest = levels[0][0]
        tower.append((lowest, tuple(at_number(levels, lowest))))
        levels = next_levels(hall, tower)
    return standing_of(tower)


def parts_of(persons):
    """The list of all rising tuples of these persons, but the bare one."""
    parts = [()]
    for person in persons:
        parts = parts + [(*part, person) for part in parts]
    return parts[1:]


def may_fill(hall, tower):
    """Whether no person is surely lost to the levels above a tower.

    Each who may stand above it is taken to do so, at a number of its own: of no lot that comes can a rule tell more
    than of these, as far as it matters whether that's above the tower.
    """
    shown = shown_on(tower)
    above = highest_of(tower) + 1
    lost = [person for person in range(len(hall)) if person not in shown]
    grown = True
    while lost and grown:
        rising = [person for person in lost if told_by(hall, shown, person) >= above]
        for person in rising:
            shown[person] = above + len(shown)
        lost = [person for person in lost if person not in shown]
        grown = len(rising) > 0
    return not lost


def towers_above(hall, tower):
    """The sound towers with one level more, but those that surely lead to no rest."""
    levels = next_levels(hall, tower)
    higher = []
    for number in sorted(set([told for told, person in levels])):
        for persons in parts_of(at_number(levels, number)):
            higher.append([*tower, (number, persons)])
    return [one for one in higher if may_fill(hall, one)]


def rests_of(hall):
    """The rising list of all rests."""
    rests = []
    towers = [[]]
    while towers:
        tower = towers.pop()
        if len(shown_on(tower)) == len(hall):
            rests.append(standing_of(tower))
        if len(rests) > MOST_RESTS:
            raise TooMany(MOST_RESTS)
        towers.extend(towers_above(hall, tower))
    return sorted(rests)
