"""[17], with [2] and [3]: texts.py."""

import random
import re
import unittest

from lesserhall.errors import BadRow
from lesserhall.halls import Hall
from lesserhall.house import House
from lesserhall.lines import line_hall
from lesserhall.over import beside, scaled
from lesserhall.rows import row_hall
from lesserhall.texts import hall_in, hall_text
from tests.helper import small_halls, some_halls

EACH = Hall([("held", 5), ("sum", 3, ((0, 2), (1, 99))), ("cap", 1, ((2, 4), (5, 1)), 600), ("kinds", 2, (0, 3)),
             ("next", (1, 4)), ("free", (0, 5)), ("sum", 0, ()), ("cap", 0, (), 0), ("kinds", 0, ()), ("next", ()),
             ("free", ())])
EACH_TEXT = """hall 11
held 5
sum 3 0:2 1:99
cap 1 600 2:4 5:1
kinds 2 0 3
next 1 4
free 0 5
sum 0
cap 0 0
kinds 0
next
free"""

N = "(?:0|[1-9][0-9]*)"
ROWS = [re.compile(row) for row in (f"held {N}", f"sum {N}((?: {N}:{N})*)", f"cap {N} {N}((?: {N}:{N})*)",
                                    f"kinds {N}((?: {N})*)", f"next((?: {N})*)", f"free((?: {N})*)")]


def naive_is_row(many, row):
    """Whether a row is a person's in a hall of so many, straight from the words of the document."""
    for written in ROWS:
        found = written.fullmatch(row)
        if found:
            words = [word.split(":") for word in "".join(found.groups()).split()]
            persons = [int(word[0]) for word in words]
            rises = all(one < other for one, other in zip(persons, persons[1:]))
            return rises and all(one < many for one in persons) and all(word[1] != "0" for word in words if word[1:])
    return False


def naive_bad_row(text):
    """The number of the row that a text is refused with, None of a hall's text."""
    rows = text.split("\n")
    if not re.fullmatch("hall [1-9][0-9]*", rows[0]):
        return 0
    many = int(rows[0].split()[1])
    for at, row in enumerate(rows[1:], 1):
        if at > many or not naive_is_row(many, row):
            return at
    return len(rows) if len(rows) <= many else None


def bad_row_of(text):
    """The number of the row that a text is refused with, None where it's not."""
    try:
        hall_in(text)
    except BadRow as refusal:
        return refusal.row
    return None


class HallTextTest(unittest.TestCase):
    def test_each_word(self):
        self.assertEqual(hall_text(EACH), EACH_TEXT)

    def test_one_person(self):
        for rule, row in ((("held", 0), "held 0"), (("sum", 0, ((0, 1),)), "sum 0 0:1"), (("sum", 7, ()), "sum 7"),
                          (("cap", 2, ((0, 3),), 9), "cap 2 9 0:3"), (("kinds", 1, (0,)), "kinds 1 0"),
                          (("next", (0,)), "next 0"), (("next", ()), "next"), (("free", (0,)), "free 0"),
                          (("free", ()), "free")):
            self.assertEqual(hall_text(Hall([rule])), "hall 1\n" + row)
            self.assertEqual(hall_in("hall 1\n" + row), Hall([rule]))

    def test_persons_who_see_none(self):
        hall = Hall([("sum", 0, ()), ("cap", 1, (), 2), ("kinds", 3, ()), ("next", ()), ("free", ()), ("held", 10)])
        self.assertEqual(hall_text(hall), "hall 6\nsum 0\ncap 1 2\nkinds 3\nnext\nfree\nheld 10")

    def test_names_and_kinds(self):
        self.assertIs(type(hall_text(hall=EACH)), str)
        self.assertEqual(hall_text(hall=EACH), EACH_TEXT)


class HallInTest(unittest.TestCase):
    def bad(self, text, row):
        with self.assertRaises(BadRow) as caught:
            hall_in(text)
        self.assertEqual(caught.exception.row, row, text)
        self.assertEqual(naive_bad_row(text), row, text)

    def test_each_word(self):
        told = hall_in(text=EACH_TEXT)
        self.assertIs(type(told), Hall)
        self.assertEqual(told, EACH)

    def test_there_and_back(self):
        for _, hall, _ in some_halls(1701, 200):
            self.assertEqual(hall_in(hall_text(hall)), hall)
        for _, hall, _ in small_halls(1702, 200, 5):
            self.assertEqual(hall_in(hall_text(hall)), hall)

    def test_halls_that_were_told(self):
        for hall in (row_hall(60), line_hall(59, ring=True), beside(row_hall(60), EACH), House(EACH, (0,) * 11).hall()):
            self.assertEqual(hall_in(hall_text(hall)), hall)

    def test_however_great_numbers_are(self):
        hall = Hall([("held", 10 ** 18), ("sum", 10 ** 36 + 7, ((0, 10 ** 17), (1, 10 ** 54 - 1))),
                     ("cap", 123456789012345678901234567890, (), 0)])
        text = "hall 3\nheld 1" + "0" * 18 + "\nsum 1" + "0" * 35 + "7 0:1" + "0" * 17 + " 1:" + "9" * 54
        text += "\ncap 123456789012345678901234567890 0"
        self.assertEqual(hall_text(hall), text)
        self.assertEqual(hall_in(text), hall)
        # Python itself would not write or read so long a number.
        great = Hall([("held", 10 ** 6000), ("sum", 3, ((0, 7 * 10 ** 5000),))])
        self.assertEqual(hall_text(great), "hall 2\nheld 1" + "0" * 6000 + "\nsum 3 0:7" + "0" * 5000)
        self.assertEqual(hall_in(hall_text(great)), great)
        self.assertEqual(hall_in(hall_text(scaled(great, 99))), scaled(great, 99))
        self.bad("hall 1\nnext 1" + "0" * 190, 1)
        self.bad("hall 1" + "0" * 190 + "\nheld 4", 2)
        self.assertEqual(bad_row_of("hall 1" + "0" * 6000 + "\nheld 4"), 2)
        self.assertEqual(bad_row_of("hall 1\nfree 1" + "0" * 6000), 1)

    def test_just_this_text(self):
        for _, hall, _ in small_halls(1703, 30, 3):
            text = hall_text(hall)
            for other in (text + "\n", text + " ", "\n" + text, " " + text, text.replace("\n", "\n\n", 1),
                          text.replace("\n", "\r\n"), text.replace(" ", "  "), text.replace(" ", "\t"), text.upper(),
                          text + "\nheld 0", text + "\n" + text, text + "\0", text.replace("\n", "\x0b"),
                          text.replace("\n", "\u2028"), text.replace(" ", "\u00a0")):
                self.assertEqual(bad_row_of(other), naive_bad_row(other))
                self.assertIsNotNone(bad_row_of(other))

    def test_empty(self):
        self.bad("", 0)
        self.bad("\n", 0)
        self.bad(" ", 0)
        self.bad("\nhall 1\nheld 0", 0)

    def test_first_row(self):
        for row in ("hall", "hall ", "hall 0", "hall 00", "hall 01", "hall 1 ", " hall 1", "hall  1", "hall 1 1", "hall -1",
                    "hall +1", "hall 1.0", "hall x", "hall 1:1", "hall 1:", "Hall 1", "halls 1", "1", "hall1", "held 0",
                    "hall \u0661", "hall \u00b9", "hall \uff11", "hall 1_0", "hall 1\r", "hall\t1"):
            self.bad(row + "\nheld 0", 0)
            self.bad(row, 0)

    def test_rows_of_persons(self):
        for row in ("", " ", "held", "held ", "held  0", "held 0 ", " held 0", "held 00", "held 01", "held -1", "held +0",
                    "held 1 2", "held x", "held 1:1", "held 0:", "held \u0663", "held \u00b2", "held 1e3", "held 0x1",
                    "held 1_0", "Held 1", "HELD 1", "hold 1", "fly", "hall 2", "standing 1 2", "0",
                    "sum", "sum ", "sum 0 ", "sum 0  0:1", "sum 0:1", "sum 0 0", "sum 0 0:1 1", "sum 0 0:0",
                    "sum 0 0:1 1:0", "sum 0 2:1", "sum 0 0:1 2:1", "sum 0 1:1 0:1", "sum 0 0:1 0:1", "sum 0 0:1 0:2",
                    "sum 0 1:1 1:1", "sum 0 00:1", "sum 0 01:1", "sum 0 0:01", "sum 0 0:00", "sum 0 0:", "sum 0 :1",
                    "sum 0 :", "sum 0 0:1:1", "sum 0 0::1", "sum 0 0: 1", "sum 0 0 :1", "sum 0 0:-1", "sum 0 -1:1",
                    "sum 0 0:+1", "sum 0 0:x", "sum 0 0;1", "sum 00", "sum 01 0:1", "sum x", "sum 0 0:\u0661",
                    "sum 0 \u0660:1", "sum 0 0:1,1:1",
                    "cap", "cap 1", "cap 1 ", "cap 1 0:1", "cap 0:1", "cap 1 0:1 2", "cap 1 2 3", "cap 1 2 0", "cap 1 2 0:0",
                    "cap 1 2 2:1", "cap 1 2 1:1 0:1", "cap 1 02", "cap 01 2", "cap 1 2 0:1 0:1", "cap 1  0:1",
                    "kinds", "kinds ", "kinds 0 ", "kinds 0 2", "kinds 0 0 0", "kinds 0 1 0", "kinds 0 1 1", "kinds 0 0:1",
                    "kinds 0:1", "kinds 00", "kinds 0 00", "kinds 0 01", "kinds x", "kinds -1", "kinds 0 -1",
                    "next ", "next 2", "next 0 2", "next 1 0", "next 0 0", "next 00", "next 01", "next 0:1", "next x",
                    "next -1", "next  0", "next 0 ", "next\t0", "next \u0660", "next0", "next,0",
                    "free ", "free 2", "free 1 0", "free 1 1", "free 0:1", "free -1", "free  1", "free 0  1", "free 0 1 2"):
            self.bad("hall 2\nheld 3\n" + row, 2)
            self.bad("hall 2\n" + row + "\nheld 3", 1)
            self.bad("hall 2\n" + row, 1)
            self.bad("hall 2\nheld 3\n" + row + "\n" + row, 2)

    def test_a_row_too_many(self):
        for row in ("held 0", "", "fly", "hall 1", "standing 0"):
            self.bad("hall 1\nheld 0\n" + row, 2)
            self.bad("hall 1\nheld 0\n" + row + "\n" + row, 2)
            self.bad("hall 2\nheld 0\nnext 0\n" + row, 3)

    def test_a_row_that_lacks(self):
        self.bad("hall 1", 1)
        self.bad("hall 12", 1)
        self.bad("hall 2\nheld 0", 2)
        self.bad("hall 60\n" + "\n".join(["free"] * 59), 60)
        self.bad("hall 3\nheld 0\n", 2)
        self.bad("hall 3\nfree 2\nfly", 2)

    def test_the_first_bad_row(self):
        self.bad("hall 3\nheld 0\nfly\nfly", 2)
        self.bad("hall 1\nfly\nheld 0", 1)
        self.bad("hall 0\nfly", 0)
        self.bad("hall x\nheld 0", 0)
        self.bad("hall 2\nnext 2\nfree 9", 1)

    def test_as_the_document_says(self):
        chance = random.Random(1711)
        good = bad = 0
        for _, hall, _ in small_halls(1712, 400, 3):
            text = hall_text(hall)
            for _ in range(chance.randint(1, 2)):
                at = chance.randrange(len(text) + 1)
                sign = chance.choice(" \n:0123x") if chance.random() < 0.8 else chance.choice(
                    ("held 1\n", "\nnext", " 1:2", " 0", "sum 0 ", "cap 1 1 ", "free "))
                text = text[:at] + chance.choice((sign, "")) + text[at + chance.randint(0, 1):]
            wanted = naive_bad_row(text)
            self.assertEqual(bad_row_of(text), wanted, text)
            if wanted is None:
                self.assertEqual(hall_text(hall_in(text)), text)
            good, bad = good + (wanted is None), bad + (wanted is not None)
        self.assertGreater(min(good, bad), 40)

    def test_sixty_rows_of_two_hundred_signs(self):
        rules = [("sum", 999, tuple((person, 99) for person in range(20, 52))) for _ in range(59)]
        text = hall_text(Hall(rules))
        self.assertEqual(text.count("\n"), 59)
        self.assertEqual(hall_in(text), Hall(rules))
        self.bad(text + "\n" + "~" * 200, 60)
        self.bad("\n".join(["~ !" * 66] * 60), 0)


if __name__ == "__main__":
    unittest.main()
