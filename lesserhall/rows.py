"""Rows: each person sees all ahead of it, at weight 1; their rests are bracketings.

In a rest of a row at least v persons show less than v, for each v up to how many persons there are. So where one more
comes who shows v, the stops up to v stay stops, those above it are none any more, for one more shows less than they
are, and how many persons there are now is the one new stop: stops are piled up and taken off as brackets are.
"""

from lesserhall.beats import history, rest_by_beats
from lesserhall.errors import BadText, NoRest
from lesserhall.halls import Hall
from lesserhall.plain import is_number
from lesserhall.sweeps import nearest_stop


def row_hall(many):
    """The row of so many persons."""
    return Hall([("sum", 0, tuple([(other, 1) for other in range(person)])) for person in range(many)])


def how_many_less(standing, number):
    """How many persons show less than a number."""
    return len([shown for shown in standing if shown < number])


def row_stops(rest):
    """The rising list of the numbers, up to how many persons there are, of which just so many persons show less."""
    return [number for number in range(len(rest) + 1) if how_many_less(rest, number) == number]


def stops_behind(stops, shown, many):
    """The stops of a rest of so many persons, of those of the rest ahead of its last one and what that one shows."""
    return [stop for stop in stops if stop <= shown] + [many]


def is_row_rest(thing):
    """Whether a thing is a rest of a row."""
    if not isinstance(thing, tuple) or not thing or not all([is_number(shown) for shown in thing]):
        return False
    stops = [0]
    for person, shown in enumerate(thing):
        if shown not in stops:
            return False
        stops = stops_behind(stops, shown, person + 1)
    return True


def row_swept(standing):
    """The rest of its row that a standing is swept to."""
    rest = []
    stops = [0]
    for shown in standing:
        stop = nearest_stop(stops, shown, how_many_less(rest, shown))
        rest.append(stop)
        stops = stops_behind(stops, stop, len(rest))
    return tuple(rest)


def endings(many):
    """Rows of numbers: row k tells in how many ways a rest goes on by k persons, by how many stops it has.

    Of so many stops the next person may show any, and then has left 2 of them, 3, .. and one more than there were.
    """
    rows = [[0] + [1] * (many + 1)]
    while len(rows) <= many:
        row = [0]
        for ways in rows[-1][2:]:
            row.append(row[-1] + ways)
        rows.append(row)
    return rows


def row_counts(many):
    """How many rests a row of so many persons has."""
    return endings(many)[many][1]


def row_rest(many, number):
    """The rest of that number of a row of so many persons, as tuples rise."""
    if not 0 <= number < row_counts(many):
        raise NoRest(number)
    rows = endings(many)
    rest = []
    stops = [0]
    left = number
    while len(rest) < many:
        # Row[k] is how many rests have one of the first k stops here.
        row = rows[many - len(rest)]
        at = max([k for k in range(len(stops)) if row[k] <= left])
        left -= row[at]
        rest.append(stops[at])
        stops = stops_behind(stops, stops[at], len(rest))
    return tuple(rest)


def row_number(rest):
    """The number of a rest among those of its row."""
    rows = endings(len(rest))
    number = 0
    stops = [0]
    for person, shown in enumerate(rest):
        number += rows[len(rest) - person][stops.index(shown)]
        stops = stops_behind(stops, shown, person + 1)
    return number


def brackets_of(rest):
    """The text of brackets of a rest of a row."""
    text = ""
    stops = [0]
    for person, shown in enumerate(rest):
        behind = stops_behind(stops, shown, person + 1)
        text += ")" * (len(stops) - len(behind) + 1) + "("
        stops = behind
    return text + ")" * (len(stops) - 1)


def rest_of(text):
    """The rest of a row that a text of brackets is of."""
    rest = []
    stops = [0]
    for sign in text:
        if sign == "(":
            rest.append(stops[-1])
            stops.append(len(rest))
        elif sign == ")" and len(stops) > 1:
            stops.pop()
        else:
            raise BadText(text)
    if not rest or len(stops) > 1:
        raise BadText(text)
    return tuple(rest)


def row_falls(standing):
    """The list of how many persons fall at each beat till the row rests."""
    hall = row_hall(len(standing))
    told = history(hall, standing, rest_by_beats(hall, standing)[1])
    return [how_many_fall(ahead, behind) for ahead, behind in zip(told, told[1:])]


def how_many_fall(ahead, behind):
    """How many persons show less behind a beat than ahead of it."""
    return len([shown for shown, other in zip(ahead, behind) if other < shown])
