"""Texts of halls: a row that tells how many persons there are, then a row for each one's rule."""

from lesserhall.errors import BadRow
from lesserhall.halls import Hall
from lesserhall.plain import is_number
from lesserhall.rules import is_rule


def figures(number):
    """A number in plain figures, however great: Python itself writes none of more than some thousand figures."""
    parts = []
    left = number
    while left >= 10 ** 18:
        left, low = divmod(left, 10 ** 18)
        parts.append(str(low).zfill(18))
    parts.append(str(left))
    return "".join(parts[::-1])


def number_in(word):
    """The number that a word of plain figures is, None of any other word."""
    if not word.isascii() or not word.isdigit() or (word[0] == "0" and word != "0"):
        return None
    number = 0
    # Figure by figure: Python itself reads none of more than some thousand figures.
    for figure in word:
        number = number * 10 + int(figure)
    return number


def part_in(word):
    """The number that a word is, the tuple of them where colons part it; None for whatever is no number."""
    if ":" in word:
        return tuple([number_in(one) for one in word.split(":")])
    return number_in(word)


def parts_in(row):
    """The first word of a row, then what each word behind it is."""
    first, *others = row.split(" ")
    return [first, *[part_in(word) for word in others]]


def many_in(row):
    """How many persons the first row of a hall's text tells, None where it isn't so written."""
    parts = parts_in(row)
    if parts[0] != "hall" or len(parts) != 2 or not is_number(parts[1]) or parts[1] < 1:
        return None
    return parts[1]


def rule_in(many, row):
    """The rule of a hall of so many persons that a row tells, None where it isn't so written."""
    word, *parts = parts_in(row)
    if word == "held":
        rule = (word, *parts)
    elif word == "cap":
        # The most stands ahead of those who are seen, in a rule behind them.
        rule = (word, *parts[:1], tuple(parts[2:]), *parts[1:2])
    elif word in ("sum", "kinds"):
        rule = (word, *parts[:1], tuple(parts[1:]))
    else:
        rule = (word, tuple(parts))
    # Whatever lacks, is too much or is no number makes it none.
    return rule if is_rule(many, rule) else None


def row_of(rule):
    """The row of a rule."""
    word = rule[0]
    if word == "held":
        words = [figures(rule[1])]
    elif word in ("sum", "cap"):
        ties = [f"{figures(person)}:{figures(weight)}" for person, weight in rule[2]]
        words = [figures(rule[1]), *[figures(most) for most in rule[3:]], *ties]
    else:
        words = [figures(number) for number in (*rule[1:-1], *rule[-1])]
    return " ".join([word, *words])


def hall_text(hall):
    """The text of a hall."""
    rows = [f"hall {figures(len(hall))}", *[row_of(rule) for rule in hall.rules()]]
    return "\n".join(rows)


def hall_ahead(rows):
    """The Hall that the first rows tell; those behind its own are not looked at."""
    many = many_in(rows[0])
    if many is None:
        raise BadRow(0)
    rules = [rule_in(many, row) for row in rows[1:many + 1]]
    if None in rules:
        raise BadRow(rules.index(None) + 1)
    if len(rules) < many:
        raise BadRow(len(rows))
    return Hall(rules)


def hall_in(text):
    """The Hall of just this text."""
    rows = text.split("\n")
    hall = hall_ahead(rows)
    if len(rows) > len(hall) + 1:
        raise BadRow(len(hall) + 1)
    return hall
