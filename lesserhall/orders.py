"""Turns in an order told, again and again, till nobody is restless."""

from lesserhall.turns import is_rest, turned


def rest_by(hall, standing, order):
    """The pair of the rest, and the list of the persons whom a turn changed, by turns one by one."""
    here = standing
    changed = []
    while not is_rest(hall, here):
        for person in order:
            behind = turned(hall, here, [person])
            if behind != here:
                changed.append(person)
                here = behind
    return here, changed


def rest_by_lots(hall, standing, lots):
    """The pair of the rest, and how many lots had turns up to the last that changed something."""
    here = standing
    had = 0
    many = 0
    while not is_rest(hall, here):
        for persons in lots:
            had += 1
            behind = turned(hall, here, persons)
            if behind != here:
                many = had
                here = behind
    return here, many
