"""Windows: each person sees the few just ahead of it."""

from lesserhall.halls import Hall
from lesserhall.rows import row_stops


def window_hall(many, wide):
    """The hall of so many persons in which each sees the wide ones just ahead of it."""
    ties = [tuple([(other, 1) for other in range(max(0, person - wide), person)]) for person in range(many)]
    return Hall([("sum", 0, one) for one in ties])


def windows_behind(window, wide):
    """What the last persons may show behind one person more, of what they show ahead of it."""
    first = max(0, len(window) + 1 - wide)
    # The next one sees just these, as one more person in a row sees all others: so it may stop where that one may.
    return [(window + (stop,))[first:] for stop in row_stops(window)]


def followers(many, wide):
    """Lists of numbers: which windows may come behind each window, called by numbers, () by 0.

    Only the windows that are come to by fewer than so many persons have such a list; the others come behind.
    """
    numbers = {(): 0}
    lists = []
    reached = [()]
    for person in range(many):
        fresh = []
        for window in reached:
            behind = windows_behind(window, wide)
            for one in behind:
                if one not in numbers:
                    numbers[one] = len(numbers)
                    fresh.append(one)
            lists.append([numbers[one] for one in behind])
        reached = fresh
    return lists + [[] for window in reached]


def window_counts(many, wide):
    """How many rests a hall of so many persons has in which each sees the wide ones just ahead of it."""
    lists = followers(many, wide)
    # In how many ways each window goes on by 0 persons, 1, ..; those without a list are come to by the last ones alone.
    ways = [1] * len(lists)
    for person in range(many):
        ways = [sum([ways[one] for one in behind]) for behind in lists]
    return ways[0]
