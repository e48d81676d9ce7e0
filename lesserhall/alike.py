"""Lists of persons who are alike, and are told as one."""

from lesserhall.errors import NotAlike, NotLike
from lesserhall.halls import Hall
from lesserhall.plain import are_persons, rises
from lesserhall.rules import ties_of, tied_so


def is_filled(many, thing):
    """Whether a thing is a rising list of persons of so many, not bare."""
    return isinstance(thing, list) and len(thing) > 0 and are_persons(many, tuple(thing))


def are_lists(many, thing):
    """Whether a thing is a list of lists of persons, by their least ones, each of so many persons in one."""
    if not isinstance(thing, list) or not all([is_filled(many, persons) for persons in thing]):
        return False
    if not rises([persons[0] for persons in thing]):
        return False
    return sorted([person for persons in thing for person in persons]) == list(range(many))


def places_of(lists):
    """The number of the list that each person is in, by persons."""
    return {person: at for at, persons in enumerate(lists) for person in persons}


def rule_of_lists(hall, person, places):
    """That person's rule, of lists in the place of persons: it sees the other lists, of its own none.

    Two persons of one list are alike where these rules of theirs are the same.
    """
    weights = {}
    for other, weight in ties_of(hall.rule(person)):
        at = places[other]
        if at != places[person]:
            weights[at] = weights.get(at, 0) + weight
    return tied_so(hall.rule(person), sorted(list(weights.items())))


def are_alike(hall, thing):
    """Whether a thing is lists of the hall's persons that are alike."""
    if not are_lists(len(hall), thing):
        return False
    places = places_of(thing)
    for persons in thing:
        first = rule_of_lists(hall, persons[0], places)
        if any([rule_of_lists(hall, person, places) != first for person in persons]):
            return False
    return True


def parted(marks):
    """The lists of persons of the same mark, of a mark for each person."""
    lists = {}
    for person, mark in enumerate(marks):
        if mark not in lists:
            lists[mark] = []
        lists[mark].append(person)
    return list(lists.values())


def lists_of(hall, standing):
    """The fewest lists that are alike, all of each showing one number."""
    lists = []
    finer = parted(standing)
    # Who must be parted is parted for good: those whose rules see one list unlike are so in any lists within these.
    while len(finer) > len(lists):
        lists = finer
        places = places_of(lists)
        finer = parted([(places[person], rule_of_lists(hall, person, places)) for person in range(len(hall))])
    return lists


def lesser(hall, lists):
    """The Hall of a person for each list."""
    # Handed in, each list may be a tuple.
    told = [list(persons) if isinstance(persons, tuple) else persons for persons in lists]
    if not are_alike(hall, told):
        raise NotAlike()
    places = places_of(told)
    return Hall([rule_of_lists(hall, persons[0], places) for persons in told])


def told_small(standing, lists):
    """The standing of the lists, of one of the persons."""
    for at, persons in enumerate(lists):
        if len(set([standing[person] for person in persons])) > 1:
            raise NotLike(at)
    return tuple([standing[persons[0]] for persons in lists])


def told_wide(standing, lists):
    """The standing of the persons, of one of the lists."""
    places = places_of(lists)
    return tuple([standing[places[person]] for person in range(len(places))])
