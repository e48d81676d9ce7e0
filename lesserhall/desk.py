"""A desk: a sheet tells a hall and a standing, and is answered row by row what is done and asked behind these."""

from lesserhall.errors import BadRow, HasRound, Held, NoPerson, NotHeld, TooMany
from lesserhall.halls import is_standing
from lesserhall.house import House
from lesserhall.levels import plain_rest, rests_of
from lesserhall.plain import is_number
from lesserhall.sweeps import swept
from lesserhall.texts import hall_ahead, parts_in
from lesserhall.turns import restless
from lesserhall.webs import late_of

# How many numbers stand behind the word of each deed; behind turn there may be more.
DEEDS = {"turn": 1, "beat": 1, "rest": 0, "show": 2, "hold": 1, "loose": 1, "undo": 0}
ASKS = ("standing", "restless", "firm", "held", "plain", "rests", "late", "swept", "turns")
MOST_FIGURES = 6


def has_long_number(row):
    """Whether a number of more figures than a sheet may have stands in a row."""
    return any([len(word) > MOST_FIGURES and word.isdigit() for word in row.replace(":", " ").split(" ")])


def standing_in(hall, row):
    """The standing of the hall that a row tells, None where it isn't so written."""
    word, *numbers = parts_in(row)
    if word != "standing" or not is_standing(hall, tuple(numbers)):
        return None
    return tuple(numbers)


def is_request(parts):
    """Whether the parts of a row are those of a deed or an ask."""
    word, *numbers = parts
    if not all([is_number(number) for number in numbers]):
        return False
    if word == "turn":
        return len(numbers) >= DEEDS[word]
    if word in DEEDS:
        return len(numbers) == DEEDS[word]
    return word in ASKS and not numbers


def sheet_of(text):
    """The hall, the standing, and the list of the parts of each row behind them, of a sheet."""
    # An empty row is never right: so is none with a number that is too long.
    rows = ["" if has_long_number(row) else row for row in text.split("\n")]
    hall = hall_ahead(rows)
    first = len(hall) + 1
    standing = standing_in(hall, rows[first]) if first < len(rows) else None
    if standing is None:
        raise BadRow(first)
    requests = [parts_in(row) for row in rows[first + 1:]]
    for at, parts in enumerate(requests):
        if not is_request(parts):
            raise BadRow(first + 1 + at)
    return hall, standing, requests


def told_numbers(numbers):
    """Numbers by blanks, - of none."""
    return " ".join([str(number) for number in numbers]) or "-"


def told_firm(house):
    """The firm ones and the waterline."""
    line = house.line()
    lines = [] if line is None else [line]
    return f"{told_numbers(house.firm())} | {told_numbers(lines)}"


def told_deed(house, word, numbers):
    """Do a deed; told is the text of what it tells."""
    if word == "turn":
        return told_numbers(house.turn(numbers))
    if word == "beat":
        return told_numbers(house.beat(numbers[0]))
    if word == "rest":
        return told_numbers([house.rest()])
    if word == "undo":
        return "done" if house.undo() else "nothing"
    if word == "show":
        house.show(numbers[0], numbers[1])
    elif word == "hold":
        house.hold(numbers[0])
    else:
        house.loose(numbers[0])
    return "done"


def told_ask(house, word):
    """The text of what is asked."""
    if word == "firm":
        return told_firm(house)
    if word == "rests":
        return "; ".join([told_numbers(rest) for rest in rests_of(house.hall())])
    if word == "standing":
        return told_numbers(house.standing())
    if word == "restless":
        return told_numbers(restless(house.hall(), house.standing()))
    if word == "held":
        return told_numbers(house.held())
    if word == "plain":
        return told_numbers(plain_rest(house.hall()))
    if word == "late":
        return told_numbers(late_of(house.hall()))
    if word == "swept":
        return told_numbers(swept(house.hall(), house.standing()))
    return told_numbers([house.turns()])


def answer(house, parts):
    """The text that a row is answered by, of its parts."""
    word, *numbers = parts
    try:
        return told_deed(house, word, numbers) if word in DEEDS else told_ask(house, word)
    except NoPerson:
        return "refused NoPerson"
    except Held:
        return "refused Held"
    except NotHeld:
        return "refused NotHeld"
    except HasRound:
        return "refused HasRound"
    except TooMany:
        return "refused TooMany"


def answers(text):
    """The list of the answers to the rows of a sheet behind its hall and its standing."""
    hall, standing, requests = sheet_of(text)
    house = House(hall, standing)
    return [answer(house, parts) for parts in requests]
