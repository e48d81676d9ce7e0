"""What several tests need: rules, turns told straight from the words of the document, and halls of all sorts."""

import random

from lesserhall.halls import Hall


def naive_told(rule, lot):
    """What a rule tells of a lot."""
    word, shown = rule[0], {number for _, number in lot}
    inside = {person for person, _ in lot}
    if word == "held":
        return rule[1]
    if word in ("sum", "cap"):
        total = rule[1]
        for person, weight in rule[2]:
            total += weight if person in inside else 0
        return rule[3] if word == "cap" and total > rule[3] else total
    if word == "kinds":
        return rule[1] + len(shown)
    if word == "next":
        return max(shown) + 1 if shown else 0
    return min(set(range(len(shown) + 1)) - shown)


def naive_seen(rule):
    """The set of those whom a rule sees."""
    if rule[0] == "held":
        return set()
    if rule[0] in ("sum", "cap"):
        return {person for person, _ in rule[2]}
    return set(rule[-1])


def naive_turned(hall, standing, persons):
    """The standing behind the turns of these persons, had at once."""
    behind = []
    for person, shown in enumerate(standing):
        if person in persons:
            rule = hall.rules()[person]
            lot = [(other, standing[other]) for other in range(len(standing))
                   if other in naive_seen(rule) and standing[other] < shown]
            shown = naive_told(rule, lot)
        behind.append(shown)
    return tuple(behind)


def some_rule(chance, many):
    """Any rule of a hall of so many."""
    seen = tuple(sorted(chance.sample(range(many), chance.randint(0, many))))
    ties = tuple((person, chance.randint(1, chance.choice((1, 3, 99)))) for person in seen)
    own = chance.randint(0, chance.choice((0, 4, 999)))
    return chance.choice((
        ("held", own),
        ("sum", own, ties),
        ("cap", own, ties, chance.randint(0, 300)),
        ("kinds", own, seen),
        ("next", seen),
        ("free", seen),
    ))


def some_halls(seed, times):
    """So many triples (chance, hall, standing), the same ones of the same seed; 1 to 12 persons."""
    chance = random.Random(seed)
    for _ in range(times):
        many = chance.randint(1, 12)
        hall = Hall([some_rule(chance, many) for _ in range(many)])
        most = chance.choice((2, 12, 300, 10 ** 6))
        yield chance, hall, tuple(chance.randint(0, most) for _ in range(many))


def row_of(many):
    """The hall in which each sees all ahead of it, at weight 1."""
    return Hall([("sum", 0, tuple((other, 1) for other in range(person))) for person in range(many)])
