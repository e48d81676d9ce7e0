"""Halls led over into others."""

from lesserhall.errors import NoSum, NotSums
from lesserhall.halls import Hall
from lesserhall.rules import ties_of, tied_so


def scaled_rule(rule, times):
    """A rule without kinds, next and free, its numbers so many times as great."""
    wider = tied_so(rule, [(person, weight * times) for person, weight in ties_of(rule)])
    return tuple([part * times if isinstance(part, int) else part for part in wider])


def scaled(hall, times):
    """The Hall whose own numbers, weights, mosts and held numbers are so many times as great."""
    for person, rule in enumerate(hall.rules()):
        if rule[0] not in ("held", "sum", "cap"):
            raise NotSums(person)
    return Hall([scaled_rule(rule, times) for rule in hall.rules()])


def renamed(rule, names):
    """A rule that sees the same persons, called otherwise: names has the new one of each."""
    return tied_so(rule, sorted([(names[person], weight) for person, weight in ties_of(rule)]))


def called(hall, order):
    """The Hall whose persons are those of the order, each called by its place there."""
    names = {person: at for at, person in enumerate(order)}
    return Hall([renamed(hall.rule(person), names) for person in order])


def beside(one, other):
    """The Hall of one's persons, then the other's."""
    names = {person: len(one) + person for person in range(len(other))}
    return Hall([*one.rules(), *[renamed(rule, names) for rule in other.rules()]])


def with_rule(hall, person, rule):
    """The Hall in which that person's rule is this one."""
    rules = list(hall.rules())
    rules[person] = rule
    return Hall(rules)


def held_at(hall, person, number):
    """The Hall in which that person is held at a number."""
    hall.must_have(person)
    return with_rule(hall, person, ("held", number))


def tied(hall, person, other, weight):
    """The Hall in which that person sees the other one at a weight, at 0 not at all."""
    hall.must_have(person)
    hall.must_have(other)
    rule = hall.rule(person)
    if rule[0] not in ("sum", "cap"):
        raise NoSum(person)
    ties = [tie for tie in ties_of(rule) if tie[0] != other]
    if weight > 0:
        ties.append((other, weight))
    return with_rule(hall, person, tied_so(rule, sorted(ties)))
