"""Who sees whom: rounds, and halls without any."""

from lesserhall.errors import HasRound
from lesserhall.plain import is_person, unlike


def others_seen(hall, person):
    """The rising list of those whom that person sees, itself aside."""
    return [other for other in hall.sees(person) if other != person]


def first_free(hall, left):
    """The first of those left who sees no other of them, None where each does."""
    for person in left:
        if not any([other in left for other in others_seen(hall, person)]):
            return person
    return None


def peeled(hall):
    """The pair of the list of persons taken one by one, each behind all whom it sees, and of those left over."""
    taken = []
    left = list(range(len(hall)))
    person = first_free(hall, left)
    while person is not None:
        taken.append(person)
        left.remove(person)
        person = first_free(hall, left)
    return taken, left


def round_in(hall):
    """A round of the hall, None where there's none."""
    left = peeled(hall)[1]
    if not left:
        return None
    # Each one left sees another one left: whoever goes on along these comes back.
    path = []
    person = left[0]
    while person not in path:
        path.append(person)
        person = [other for other in others_seen(hall, person) if other in left][0]
    return path[path.index(person):]


def shows_round(hall, thing):
    """Whether a thing is a round of the hall."""
    if not isinstance(thing, list) or len(thing) < 2:
        return False
    if not all([is_person(len(hall), one) for one in thing]) or not unlike(thing):
        return False
    return all([other in hall.sees(person) for person, other in zip(thing, thing[1:] + thing[:1])])


def seen_first(hall):
    """The list of all persons, each behind all others whom it sees, next always the least that can be."""
    taken, left = peeled(hall)
    if left:
        raise HasRound()
    return taken


def late_of(hall):
    """The tuple of the beats by which each person rests at the latest."""
    late = {}
    for person in seen_first(hall):
        others = others_seen(hall, person)
        late[person] = max([late[other] for other in others], default=0) + len(others) + 1
    return tuple([late[person] for person in range(len(hall))])
