"""Houses: a hall and its standing, kept over many deeds, each of which may be undone."""

from lesserhall.beats import beaten
from lesserhall.errors import BadDeed, BadRule, Held, NotHeld
from lesserhall.firm import firm_of, waterline
from lesserhall.halls import Hall
from lesserhall.over import with_rule
from lesserhall.rules import is_rule
from lesserhall.sweeps import shown_by
from lesserhall.turns import turned

# How many things the deed of each word is handed.
COUNTS = {"turn": 1, "beat": 1, "rest": 0, "show": 2, "hold": 1, "loose": 1, "rule": 2}


def is_deed(thing):
    """Whether a thing is a tuple of a deed's word and as many things as that deed is handed."""
    # Only a text is looked up: a list in its place could not be.
    if not isinstance(thing, tuple) or not thing or not isinstance(thing[0], str):
        return False
    return thing[0] in COUNTS and len(thing) == COUNTS[thing[0]] + 1


class House:
    """A hall and what its persons show; deeds change it, and can be undone one by one."""

    def __init__(self, hall, standing):
        # Own rules stand aside of who is held at what, so that they are there again once a person is loosed.
        self.own = hall
        self.pins = ()
        self.shown = standing
        self.changes = 0
        self.past = []
        self.entries = []

    def state(self):
        """All that a deed can change; nothing in it ever changes itself."""
        return self.own, self.pins, self.shown, self.changes

    def remember(self):
        """Keep the state ahead of a deed, for undo; it comes behind all refusals."""
        self.past.append(self.state())

    def move(self, behind):
        """Show what is shown behind some turns; told is the rising list of those who changed."""
        changed = [person for person, shown in enumerate(behind) if shown != self.shown[person]]
        self.shown = behind
        self.changes += len(changed)
        return changed

    def turn(self, persons):
        """These persons have their turns at once; told is the rising list of those who changed."""
        for person in persons:
            self.own.must_have(person)
        self.remember()
        return self.move(turned(self.hall(), self.shown, persons))

    def beat(self, many=1):
        """So many beats; told is the standing."""
        hall = self.hall()
        self.remember()
        for step in range(many):
            # Behind a beat that changes nobody none changes anybody, however many are to come.
            if not self.move(beaten(hall, self.shown)):
                break
        return self.shown

    def rest(self):
        """Beats till it rests; told is how many."""
        hall = self.hall()
        self.remember()
        beats = 0
        while self.move(beaten(hall, self.shown)):
            beats += 1
        return beats

    def show(self, person, number):
        """That person shows that number."""
        self.own.must_have(person)
        self.remember()
        self.shown = shown_by(self.shown, person, number)

    def hold(self, person):
        """That person is held at what it shows, till it's loosed."""
        self.own.must_have(person)
        if person in self.held():
            raise Held(person)
        self.remember()
        self.pins = tuple(sorted([*self.pins, (person, self.shown[person])]))

    def loose(self, person):
        """That person has its own rule again."""
        self.own.must_have(person)
        if person not in self.held():
            raise NotHeld(person)
        self.remember()
        self.pins = tuple([pin for pin in self.pins if pin[0] != person])

    def rule(self, person, rule):
        """That person's own rule is this one, of who is held once it's loosed."""
        self.own.must_have(person)
        if not is_rule(len(self.own), rule):
            raise BadRule()
        self.remember()
        self.own = with_rule(self.own, person, rule)

    def undo(self):
        """Take the last deed that stands back; told is whether there was one."""
        if not self.past:
            return False
        self.own, self.pins, self.shown, self.changes = self.past.pop()
        return True

    def done(self, deed):
        """Do the deed of a tuple; told is what it tells."""
        word = deed[0]
        if word == "turn":
            return self.turn(deed[1])
        if word == "beat":
            return self.beat(deed[1])
        if word == "rest":
            return self.rest()
        if word == "show":
            return self.show(deed[1], deed[2])
        if word == "hold":
            return self.hold(deed[1])
        if word == "loose":
            return self.loose(deed[1])
        return self.rule(deed[1], deed[2])

    def do(self, deeds, *, whole=True):
        """Do these deeds one by one, if whole all of them or none; told is the list of what they tell."""
        for number, deed in enumerate(deeds):
            if not is_deed(deed):
                raise BadDeed(number)
        # Whole ones are done to a twin first: so a refusal leaves nothing that must be taken back.
        doer = self.twin() if whole else self
        told = []
        many = 0
        self.entries.append(("in", len(deeds)))
        try:
            for deed in deeds:
                told.append(doer.done(deed))
                many += 1
        finally:
            self.entries.append(("out", many))
        self.take_over(doer)
        return told

    def take_over(self, other):
        """Be as another house is, with all that it could undo; the log stays."""
        self.own, self.pins, self.shown, self.changes = other.state()
        self.past = list(other.past)

    def hall(self):
        """The Hall, with who is held."""
        rules = list(self.own.rules())
        for person, number in self.pins:
            rules[person] = ("held", number)
        return Hall(rules)

    def standing(self):
        """What all show."""
        return self.shown

    def held(self):
        """The rising list of those who are held."""
        return [person for person, number in self.pins]

    def turns(self):
        """How many times a person's turn changed its number, in all deeds that stand."""
        return self.changes

    def firm(self):
        """The rising list of the firm ones."""
        return firm_of(self.hall(), self.shown)

    def line(self):
        """The waterline, None of a rest."""
        return waterline(self.hall(), self.shown)

    def deeds(self):
        """How many deeds undo would take back."""
        return len(self.past)

    def log(self):
        """The list of both ends of each row of deeds that was begun."""
        return list(self.entries)

    def twin(self):
        """A house of its own, the same, its log empty."""
        other = House(self.own, self.shown)
        other.take_over(self)
        return other

    def __eq__(self, other):
        return (isinstance(other, House) and self.own == other.own and self.pins == other.pins
                and self.shown == other.shown)

    def __len__(self):
        return len(self.own)
