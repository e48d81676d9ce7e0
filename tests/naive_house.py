"""A house told straight from the words of the document: whatever is asked, all deeds that stand are done anew."""

from lesserhall.errors import BadRule, Held, NoPerson, NotHeld
from lesserhall.halls import Hall
from lesserhall.rules import is_rule
from tests.helper import naive_is_rest, naive_turned


class NaiveHouse:
    def __init__(self, hall, standing):
        self.first = (hall.rules(), standing)
        self.stand = []
        self.logged = []

    def made_anew(self):
        """The own rules, who is held at what, the standing, the turns that changed a number, what each deed told."""
        rules, shown = list(self.first[0]), list(self.first[1])
        pins, changes, told = {}, 0, []

        def hall():
            return Hall([("held", pins[person]) if person in pins else rule for person, rule in enumerate(rules)])

        def had(persons):
            nonlocal shown, changes
            behind = list(naive_turned(hall(), tuple(shown), persons))
            changed = [person for person in range(len(rules)) if behind[person] != shown[person]]
            shown, changes = behind, changes + len(changed)
            return changed

        for word, *things in self.stand:
            one = None
            if word == "turn":
                one = had(things[0])
            elif word == "beat":
                for _ in range(things[0]):
                    had(range(len(rules)))
                one = tuple(shown)
            elif word == "rest":
                one = 0
                while not naive_is_rest(hall(), tuple(shown)):
                    had(range(len(rules)))
                    one += 1
            elif word == "show":
                shown[things[0]] = things[1]
            elif word == "hold":
                pins[things[0]] = shown[things[0]]
            elif word == "loose":
                del pins[things[0]]
            else:
                rules[things[0]] = things[1]
            told.append(one)
        return rules, pins, tuple(shown), changes, told

    def refusal(self, deed):
        """What a deed is refused with, None where it isn't."""
        many, word = len(self.first[0]), deed[0]
        persons = deed[1] if word == "turn" else deed[1:2] if word in ("show", "hold", "loose", "rule") else []
        for person in persons:
            if not 0 <= person < many:
                return NoPerson(person)
        held = self.made_anew()[1]
        if word == "hold" and deed[1] in held:
            return Held(deed[1])
        if word == "loose" and deed[1] not in held:
            return NotHeld(deed[1])
        if word == "rule" and not is_rule(many, deed[2]):
            return BadRule()
        return None

    def deed(self, deed):
        """The pair of what a deed tells and its refusal."""
        refusal = self.refusal(deed)
        if refusal is None:
            self.stand.append(deed)
            return self.made_anew()[4][-1], None
        return None, refusal

    def do(self, deeds, whole):
        """The pair of what deeds that are right ones tell and the refusal."""
        before, told = list(self.stand), []
        self.logged.append(("in", len(deeds)))
        for deed in deeds:
            one, refusal = self.deed(deed)
            if refusal is not None:
                if whole:
                    self.stand = before
                self.logged.append(("out", len(told)))
                return None, refusal
            told.append(one)
        self.logged.append(("out", len(told)))
        return told, None

    def undo(self):
        there = bool(self.stand)
        self.stand = self.stand[:-1]
        return there

    def hall(self):
        rules, pins = self.made_anew()[:2]
        return Hall([("held", pins[person]) if person in pins else rule for person, rule in enumerate(rules)])
