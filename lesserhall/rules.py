"""Rules: what a person shows of the lot of those it sees who show less."""

from lesserhall.plain import are_persons, is_number, is_person, rises

PARTS = {
    "held": ("number",),
    "sum": ("number", "ties"),
    "cap": ("number", "ties", "number"),
    "kinds": ("number", "seen"),
    "next": ("seen",),
    "free": ("seen",),
}


def is_rule(many, thing):
    """Whether a thing is a rule that sees persons of so many alone."""
    if not isinstance(thing, tuple) or not thing:
        return False
    # Only a text is looked up: a list in its place could not be.
    if not isinstance(thing[0], str) or thing[0] not in PARTS:
        return False
    parts = PARTS[thing[0]]
    if len(thing) != len(parts) + 1:
        return False
    return all([is_part(many, part, piece) for part, piece in zip(parts, thing[1:])])


def is_part(many, part, thing):
    """Whether a thing may stand as that part of a rule."""
    if part == "number":
        return is_number(thing)
    if part == "ties":
        return are_ties(many, thing)
    return are_persons(many, thing)


def are_ties(many, thing):
    """Whether a thing is a rising tuple of ties, to unlike persons of so many."""
    if not isinstance(thing, tuple) or not all([is_tie(many, one) for one in thing]):
        return False
    return rises([person for person, weight in thing])


def is_tie(many, thing):
    """Whether a thing is a pair of a person of so many and a weight of 1 or more."""
    if not isinstance(thing, tuple) or len(thing) != 2:
        return False
    return is_person(many, thing[0]) and is_number(thing[1]) and thing[1] >= 1


def seen_by(rule):
    """The rising list of the persons that a rule sees."""
    word = rule[0]
    if word == "held":
        return []
    if word in ("sum", "cap"):
        return [person for person, weight in rule[2]]
    if word == "kinds":
        return list(rule[2])
    return list(rule[1])


def ties_of(rule):
    """The rising list of pairs of each person that a rule sees and its weight, 1 where the rule has no weights."""
    if rule[0] in ("sum", "cap"):
        return list(rule[2])
    return [(person, 1) for person in seen_by(rule)]


def tied_so(rule, ties):
    """The rule that is like that one but sees the persons of these ties, at their weights where it has any."""
    word = rule[0]
    if word == "held":
        return rule
    if word in ("sum", "cap"):
        return (*rule[:2], tuple(ties), *rule[3:])
    return (*rule[:-1], tuple([person for person, weight in ties]))


def told_of(rule, lot):
    """The number that a rule tells of a lot of those it sees."""
    word = rule[0]
    if word == "held":
        return rule[1]
    if word == "sum":
        return weighed(rule, lot)
    if word == "cap":
        return min(weighed(rule, lot), rule[3])
    numbers = [number for person, number in lot]
    if word == "kinds":
        return rule[1] + len(set(numbers))
    if word == "next":
        return max(numbers, default=-1) + 1
    return least_free(numbers)


def weighed(rule, lot):
    """The own number and the weights of those in the lot, of a rule with ties."""
    weights = dict(rule[2])
    return rule[1] + sum([weights[person] for person, number in lot])


def least_free(numbers):
    """The least number that isn't one of these."""
    least = 0
    while least in numbers:
        least += 1
    return least


def most_of(rule):
    """The greatest number that a rule can tell of any lot, None of next."""
    word = rule[0]
    if word == "held":
        return rule[1]
    if word == "sum":
        return most_weighed(rule)
    if word == "cap":
        return min(most_weighed(rule), rule[3])
    if word == "kinds":
        return rule[1] + len(rule[2])
    if word == "next":
        return None
    return len(rule[1])


def most_weighed(rule):
    """The own number and all the weights of a rule with ties."""
    return rule[1] + sum([weight for person, weight in rule[2]])
