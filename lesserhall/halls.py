"""Halls: a rule for each person; standings: a number for each."""

from lesserhall.errors import BadHall, NoPerson
from lesserhall.plain import is_number
from lesserhall.rules import is_rule, seen_by


class Hall:
    """Persons, called from 0 on, each with a rule; it never changes."""

    def __init__(self, rules):
        for person, rule in enumerate(rules):
            if not is_rule(len(rules), rule):
                raise BadHall(person)
        self.kept = tuple(rules)

    def must_have(self, person):
        """Refuse who isn't there: Python itself would take a number below 0."""
        if not 0 <= person < len(self.kept):
            raise NoPerson(person)

    def rules(self):
        """The tuple of all rules."""
        return self.kept

    def rule(self, person):
        """That person's rule."""
        self.must_have(person)
        return self.kept[person]

    def sees(self, person):
        """The rising list of those whom that person sees."""
        return seen_by(self.rule(person))

    def seers(self, person):
        """The rising list of those who see that person."""
        self.must_have(person)
        return [other for other, rule in enumerate(self.kept) if person in seen_by(rule)]

    def __eq__(self, other):
        return isinstance(other, Hall) and self.kept == other.kept

    def __len__(self):
        return len(self.kept)

    def __repr__(self):
        return f"Hall({len(self.kept)} persons)"


def is_standing(hall, thing):
    """Whether a thing is a tuple of a number for each person of the hall."""
    if not isinstance(thing, tuple) or len(thing) != len(hall):
        return False
    return all([is_number(number) for number in thing])
