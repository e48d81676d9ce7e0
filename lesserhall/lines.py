"""Lines and rings, in which each person sees the next one alone; halls in which each sees all others.

In a rest of a line or a ring each shows 0 or 1, and nobody who shows 1 sees another one who does: all such standings,
in a line those whose last person shows 0, are rests.
"""

from lesserhall.errors import NoRest
from lesserhall.halls import Hall


def line_hall(many, *, ring=False):
    """The line, or the ring, of so many persons."""
    ties = [((person + 1, 1),) for person in range(many - 1)]
    ties.append(((0, 1),) if ring else ())
    return Hall([("sum", 0, one) for one in ties])


def ways_of(many):
    """In how many ways so many persons show 0 or 1, no two side by side 1.

    Of -1 it's 1, of -2 it's 0: from there on each is the two ahead of it together.
    """
    lower = 1
    ways = 0
    for step in range(many + 2):
        lower, ways = ways, lower + ways
    return ways


def line_counts(many, *, ring=False):
    """How many rests a line, or a ring, of so many persons has."""
    if ring:
        # The first one shows 0, or it shows 1 and both beside it 0.
        return ways_of(many - 1) + ways_of(many - 3)
    return ways_of(many - 1)


def ways_behind(left, shown, ring):
    """In how many ways a rest whose first persons show these goes on behind a 0 by so many persons.

    The last one must show 0 in a line, in a ring just where the first one shows 1.
    """
    if ring and 1 not in shown[:1]:
        return ways_of(left)
    return ways_of(left - 1)


def line_rest(many, number, *, ring=False):
    """The rest of that number of a line, or a ring, of so many persons, as tuples rise."""
    if not 0 <= number < line_counts(many, ring=ring):
        raise NoRest(number)
    rest = []
    left = number
    while len(rest) < many:
        ways = ways_behind(many - len(rest) - 1, rest, ring)
        if left < ways:
            rest.append(0)
        else:
            rest.append(1)
            left -= ways
    return tuple(rest)


def line_number(rest, *, ring=False):
    """The number of a rest among those of its line, or its ring."""
    number = 0
    for person, shown in enumerate(rest):
        if shown == 1:
            number += ways_behind(len(rest) - person - 1, rest[:person], ring)
    return number


def all_hall(many):
    """The hall of so many persons in which each sees all others."""
    return Hall([("sum", 0, tuple([(other, 1) for other in range(many) if other != person])) for person in range(many)])


def all_counts(many):
    """How many rests a hall of so many persons has in which each sees all others.

    Each way to part them into levels, one above the other, is one rest: some persons, one at least, are chosen for
    the lowest level, and those left are parted likewise.
    """
    counts = [1]
    chosen = [1]
    while len(counts) <= many:
        chosen = [1, *[one + other for one, other in zip(chosen, chosen[1:])], 1]
        counts.append(sum([ways * count for ways, count in zip(chosen[1:], counts[::-1])]))
    return counts[many]
