"""The refusals.

Their words leave the fields out, for a number may be too long to be written.
Those without a field have no words: so a copy can be made of each of them.
"""


class BadHall(ValueError):
    """Refused: what stands in that person's place is no rule of the hall."""

    def __init__(self, person):
        ValueError.__init__(self, "what stands in that person's place is no rule of the hall")
        self.person = person


class BadRule(ValueError):
    """Refused: what was handed in is no rule of the hall."""

    def __init__(self):
        ValueError.__init__(self)


class BadRow(ValueError):
    """Refused: that row of a text is not so written, or cannot stand there."""

    def __init__(self, row):
        ValueError.__init__(self, "that row of a text is not so written, or cannot stand there")
        self.row = row


class BadText(ValueError):
    """Refused: the text is not of brackets that are shut in order."""

    def __init__(self, text):
        ValueError.__init__(self, "the text is not of brackets that are shut in order")
        self.text = text


class BadDeed(ValueError):
    """Refused: the deed of that number is none."""

    def __init__(self, number):
        ValueError.__init__(self, "the deed of that number is none")
        self.number = number


class NotAlike(ValueError):
    """Refused: the lists of persons are not alike."""

    def __init__(self):
        ValueError.__init__(self)


class NotLike(ValueError):
    """Refused: the persons of that list do not show one number."""

    def __init__(self, at):
        ValueError.__init__(self, "the persons of that list do not show one number")
        self.at = at


class NotSums(ValueError):
    """Refused: that person's rule cannot be scaled."""

    def __init__(self, person):
        ValueError.__init__(self, "that person's rule cannot be scaled")
        self.person = person


class NoSum(ValueError):
    """Refused: that person's rule has no weights."""

    def __init__(self, person):
        ValueError.__init__(self, "that person's rule has no weights")
        self.person = person


class NoPerson(IndexError):
    """Refused: nobody is called so."""

    def __init__(self, person):
        IndexError.__init__(self, "nobody is called so")
        self.person = person


class NoRest(IndexError):
    """Refused: no rest has that number."""

    def __init__(self, number):
        IndexError.__init__(self, "no rest has that number")
        self.number = number


class HasRound(RuntimeError):
    """Refused: the hall has a round."""

    def __init__(self):
        RuntimeError.__init__(self)


class Held(RuntimeError):
    """Refused: that person is held already."""

    def __init__(self, person):
        RuntimeError.__init__(self, "that person is held already")
        self.person = person


class NotHeld(RuntimeError):
    """Refused: that person is not held."""

    def __init__(self, person):
        RuntimeError.__init__(self, "that person is not held")
        self.person = person


class TooMany(OverflowError):
    """Refused: there are more than so many."""

    def __init__(self, many):
        OverflowError.__init__(self, "there are more than so many")
        self.many = many
