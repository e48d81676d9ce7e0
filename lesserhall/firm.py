"""Lines of a standing, and the firm ones below them."""

from lesserhall.plain import is_number
from lesserhall.turns import is_rest, told_at, told_below


def keeps_line(hall, standing, person, line):
    """Whether that person rests below the line, or is told to stay from it up by those below it."""
    if standing[person] < line:
        return told_at(hall, standing, person) == standing[person]
    return told_below(hall, standing, person, line) >= line


def is_line(hall, standing, thing):
    """Whether a thing is a number that is a line of the standing."""
    if not is_number(thing):
        return False
    return all([keeps_line(hall, standing, person, thing) for person in range(len(hall))])


def most_up_to(hall, standing, top):
    """The greatest number, top at most, that all who show top or more are told to stay above by the others."""
    told = [told_below(hall, standing, person, top) for person, shown in enumerate(standing) if shown >= top]
    return min([top, *told])


def waterline(hall, standing):
    """The greatest line of the standing, None of a rest."""
    if is_rest(hall, standing):
        return None
    # From above one shown number up to the next one the same persons show less: so of these numbers one is enough.
    numbers = [most_up_to(hall, standing, top) for top in sorted(set(standing))]
    return max([number for number in numbers if is_line(hall, standing, number)])


def firm_of(hall, standing):
    """The rising list of the firm ones."""
    line = waterline(hall, standing)
    if line is None:
        return list(range(len(hall)))
    return [person for person in range(len(hall)) if is_firm(hall, standing, person, line)]


def is_firm(hall, standing, person, line):
    """Whether that person is firm, by the waterline."""
    if standing[person] == line:
        return told_at(hall, standing, person) == line
    return standing[person] < line
