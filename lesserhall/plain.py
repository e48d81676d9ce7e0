"""What the other files ask of plain things, whatever they are made of."""


def is_number(thing):
    """Whether a thing is a whole number from 0 on; True and False are none."""
    return isinstance(thing, int) and not isinstance(thing, bool) and thing >= 0


def is_person(many, thing):
    """Whether a thing is one of so many persons."""
    return is_number(thing) and thing < many


def are_persons(many, thing):
    """Whether a thing is a rising tuple of persons of so many."""
    return isinstance(thing, tuple) and all([is_person(many, one) for one in thing]) and rises(thing)


def rises(things):
    """Whether each of the things is less than the one behind it."""
    return all([one < other for one, other in zip(things, things[1:])])


def unlike(things):
    """Whether none of the things, numbers or texts, is there twice."""
    return len(set(things)) == len(things)
