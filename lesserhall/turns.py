"""Turns: one person's, or several persons' at once; rests."""

from lesserhall.rules import told_of


def lot_below(hall, standing, person, bound):
    """The lot of those that person sees who show less than the bound."""
    return [(other, standing[other]) for other in hall.sees(person) if standing[other] < bound]


def lot_of(hall, standing, person):
    """The lot of those that person sees who show less than it does itself."""
    return lot_below(hall, standing, person, standing[person])


def told_below(hall, standing, person, bound):
    """The number that person's rule tells of those it sees who show less than the bound."""
    return told_of(hall.rule(person), lot_below(hall, standing, person, bound))


def told_at(hall, standing, person):
    """The number that person would show behind a turn."""
    return told_below(hall, standing, person, standing[person])


def turned(hall, standing, persons):
    """The standing behind the turns of these persons, had at once."""
    shown = list(standing)
    for person in persons:
        # All count as all stand ahead: never from what is shown here so far.
        shown[person] = told_at(hall, standing, person)
    return tuple(shown)


def restless(hall, standing):
    """The rising list of those whom a turn would change."""
    return [person for person in range(len(hall)) if told_at(hall, standing, person) != standing[person]]


def is_rest(hall, standing):
    """Whether no turn changes the standing."""
    return not restless(hall, standing)
