"""What several tests need: rules, turns told straight from the words of the document, and halls of all sorts."""

import itertools
import random

from lesserhall.halls import Hall


def naive_told(rule, lot):
    """What a rule tells of a lot."""
    word, shown = rule[0], {number for _, number in lot}
    inside = {person for person, _ in lot}
    if word == "held":
        return rule[1]
    if word in ("sum", "cap"):
        total = rule[1]
        for person, weight in rule[2]:
            total += weight if person in inside else 0
        return rule[3] if word == "cap" and total > rule[3] else total
    if word == "kinds":
        return rule[1] + len(shown)
    if word == "next":
        return max(shown) + 1 if shown else 0
    return min(set(range(len(shown) + 1)) - shown)


def naive_seen(rule):
    """The set of those whom a rule sees."""
    if rule[0] == "held":
        return set()
    if rule[0] in ("sum", "cap"):
        return {person for person, _ in rule[2]}
    return set(rule[-1])


def naive_turned(hall, standing, persons):
    """The standing behind the turns of these persons, had at once."""
    behind = []
    for person, shown in enumerate(standing):
        if person in persons:
            rule = hall.rules()[person]
            lot = [(other, standing[other]) for other in range(len(standing))
                   if other in naive_seen(rule) and standing[other] < shown]
            shown = naive_told(rule, lot)
        behind.append(shown)
    return tuple(behind)


def some_rule(chance, many):
    """Any rule of a hall of so many."""
    seen = tuple(sorted(chance.sample(range(many), chance.randint(0, many))))
    ties = tuple((person, chance.randint(1, chance.choice((1, 3, 99)))) for person in seen)
    own = chance.randint(0, chance.choice((0, 4, 999)))
    return chance.choice((
        ("held", own),
        ("sum", own, ties),
        ("cap", own, ties, chance.randint(0, 300)),
        ("kinds", own, seen),
        ("next", seen),
        ("free", seen),
    ))


def some_halls(seed, times, persons=12):
    """So many triples (chance, hall, standing), the same ones of the same seed; 1 to so many persons."""
    chance = random.Random(seed)
    for _ in range(times):
        many = chance.randint(1, persons)
        hall = Hall([some_rule(chance, many) for _ in range(many)])
        most = chance.choice((2, 12, 300, 10 ** 6))
        yield chance, hall, tuple(chance.randint(0, most) for _ in range(many))


def row_of(many):
    """The hall in which each sees all ahead of it, at weight 1."""
    return Hall([("sum", 0, tuple((other, 1) for other in range(person))) for person in range(many)])


def small_rule(chance, many):
    """Any rule of a hall of so many, of small numbers, so that many of their rests differ."""
    seen = tuple(sorted(chance.sample(range(many), chance.randint(many // 2, many))))
    ties = tuple((person, chance.randint(1, 3)) for person in seen)
    own = chance.choice((0, 0, 0, 1, 2))
    return chance.choice((("held", own), ("sum", own, ties), ("sum", 0, ties), ("cap", own, ties, chance.randint(0, 4)),
                          ("kinds", own, seen), ("next", seen), ("free", seen)))


def small_halls(seed, times, persons):
    """So many triples (chance, hall, standing) of small numbers; 1 to so many persons."""
    chance = random.Random(seed)
    for _ in range(times):
        many = chance.randint(1, persons)
        hall = Hall([small_rule(chance, many) for _ in range(many)])
        yield chance, hall, tuple(chance.randint(0, 6) for _ in range(many))


def naive_is_rest(hall, standing):
    """Whether no single turn changes the standing."""
    return all(naive_turned(hall, standing, [person]) == standing for person in range(len(standing)))


def naive_told_below(hall, standing, person, bound):
    """What a person's rule tells of those it sees who show less than the bound."""
    rule = hall.rules()[person]
    return naive_told(rule, [(other, standing[other]) for other in sorted(naive_seen(rule)) if standing[other] < bound])


def naive_rests(hall):
    """All rests: whatever of all orders of persons, some maybe side by side, can be numbered upwards."""
    many = len(hall)
    found = []
    for ranks in itertools.product(range(many), repeat=many):
        shown = {}
        for rank in sorted(set(ranks)):
            below = dict(shown)
            for person in range(many):
                if ranks[person] == rank:
                    rule = hall.rules()[person]
                    shown[person] = naive_told(rule, sorted((other, below[other]) for other in below
                                                            if other in naive_seen(rule)))
        standing = tuple(shown[person] for person in range(many))
        if naive_is_rest(hall, standing):
            found.append(standing)
    return sorted(set(found))


def naive_come_to(hall, standing):
    """The set of all standings that single turns can come to, however many."""
    found, waiting = {standing}, [standing]
    while waiting:
        here = waiting.pop()
        for person in range(len(here)):
            behind = naive_turned(hall, here, [person])
            if behind not in found:
                found.add(behind)
                waiting.append(behind)
    return found


def side_by_side(*halls):
    """The rules of halls of which none sees another one."""
    rules = []
    for hall in halls:
        first = len(rules)
        for rule in hall:
            if rule[0] in ("sum", "cap"):
                ties = tuple((person + first, weight) for person, weight in rule[2])
                rules.append(rule[:2] + (ties,) + rule[3:])
            elif rule[0] == "held":
                rules.append(rule)
            else:
                rules.append(rule[:-1] + (tuple(person + first for person in rule[-1]),))
    return rules


# Things that are no number, no person, no list or tuple of these, whatever they are asked about.
ODD = (None, True, False, "", "0", "01", -1, -10 ** 9, (), [], [[]], ((),), [()], ([],), (None,), [None], ("a",), {},
       1.0)


def deep(made, depth):
    """A thing so many deep, of lists or of tuples."""
    thing = made()
    for _ in range(depth - 1):
        thing = made((thing,))
    return thing


def some_webs(seed, times, persons=12):
    """So many triples (chance, hall, standing) of halls without rounds, somebody in which may see itself."""
    chance = random.Random(seed)
    for _ in range(times):
        many = chance.randint(1, persons)
        order = chance.sample(range(many), many)
        rules = [None] * many
        for at, person in enumerate(order):
            may_see = order[:at] + [person] * chance.randint(0, 1)
            seen = tuple(sorted(chance.sample(may_see, chance.randint(0, len(may_see)))))
            ties = tuple((other, chance.randint(1, chance.choice((1, 3, 99)))) for other in seen)
            own = chance.randint(0, chance.choice((0, 0, 3, 999)))
            rules[person] = chance.choice((
                ("held", own), ("sum", own, ties), ("sum", 0, ties), ("cap", own, ties, chance.randint(0, 20)),
                ("kinds", own, seen), ("next", seen), ("free", seen)))
        most = chance.choice((2, 12, 300, 10 ** 6))
        yield chance, Hall(rules), tuple(chance.randint(0, most) for _ in range(many))
