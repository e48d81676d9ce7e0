"""[18], with (h) of [1], [2] and [3]: desk.py."""

import random
import re
import unittest

from lesserhall.desk import answers
from lesserhall.errors import BadRow, HasRound, TooMany
from lesserhall.firm import firm_of, waterline
from lesserhall.halls import Hall
from lesserhall.levels import plain_rest, rests_of
from lesserhall.rows import row_hall
from lesserhall.sweeps import swept
from lesserhall.texts import hall_text
from lesserhall.webs import late_of
from tests.helper import naive_is_rest, naive_turned, small_halls, some_webs
from tests.naive_house import NaiveHouse
from tests.test_texts import naive_bad_row

# Each of two sees the other one; from (9, 8) beats lead to (5, 0), single turns may lead to (0, 7).
BOTH = "hall 2\nsum 0 1:5\nsum 0 0:7\nstanding 9 8"
N = "(?:0|[1-9][0-9]*)"
REQUEST = re.compile(f"turn(?: {N})+|(?:beat|hold|loose) {N}|show {N} {N}|rest|undo|standing|restless|firm|held|plain"
                     "|rests|late|swept|turns")


def naive_bad_sheet_row(text):
    """The number of the row that a sheet is refused with, None of a right one."""
    rows = text.split("\n")
    # No row with a long number is right: nor is any with signs that stand nowhere.
    rows = ["!" if re.search("[0-9]{7}", row) else row for row in rows]
    if not re.fullmatch("hall [1-9][0-9]*", rows[0]):
        return 0
    many = int(rows[0].split()[1])
    bad = naive_bad_row("\n".join(rows[:many + 1]))
    if bad is not None:
        return bad
    if len(rows) == many + 1 or not re.fullmatch(f"standing(?: {N}){{{many}}}", rows[many + 1]):
        return many + 1
    for at in range(many + 2, len(rows)):
        if not REQUEST.fullmatch(rows[at]):
            return at
    return None


def bad_row_of(text):
    """The number of the row that a sheet is refused with, None where it's not."""
    try:
        answers(text)
    except BadRow as refusal:
        return refusal.row
    return None


def by_blanks(numbers):
    return " ".join(map(str, numbers)) if len(numbers) > 0 else "-"


def naive_answer(naive, row):
    """What a row is answered by, of a house told straight from the words of the document."""
    word, *words = row.split()
    numbers = [int(one) for one in words]
    if word == "undo":
        return "done" if naive.undo() else "nothing"
    if word in ("turn", "beat", "rest", "show", "hold", "loose"):
        told, refusal = naive.deed((word, numbers) if word == "turn" else (word, *numbers))
        if refusal is not None:
            return "refused " + type(refusal).__name__
        if word in ("show", "hold", "loose"):
            return "done"
        return str(told) if word == "rest" else by_blanks(told)
    _, pins, shown, changes, _ = naive.made_anew()
    hall = naive.hall()
    if word == "firm":
        line = waterline(hall, shown)
        return by_blanks(firm_of(hall, shown)) + " | " + ("-" if line is None else str(line))
    if word == "rests":
        try:
            return "; ".join(by_blanks(rest) for rest in rests_of(hall))
        except TooMany:
            return "refused TooMany"
    if word in ("late", "swept"):
        try:
            return by_blanks(late_of(hall) if word == "late" else swept(hall, shown))
        except HasRound:
            return "refused HasRound"
    return by_blanks({"standing": shown, "held": sorted(pins), "plain": plain_rest(hall), "turns": [changes],
                      "restless": [person for person in range(len(hall))
                                   if naive_turned(hall, shown, [person]) != shown]}[word])


class AnswersTest(unittest.TestCase):
    def asked(self, sheet, *pairs):
        """Each row of the pairs is answered by what stands beside it."""
        rows = [row for row, _ in pairs]
        self.assertEqual(answers("\n".join([sheet, *rows])), [told for _, told in pairs])

    def test_no_row_behind_the_standing(self):
        self.assertEqual(answers(BOTH), [])
        self.assertEqual(answers("hall 1\nfree\nstanding 0"), [])

    def test_deeds(self):
        self.asked(BOTH, ("turn 0", "0"), ("standing", "5 8"), ("turn 0 1", "0 1"), ("standing", "0 7"), ("turn 1", "-"),
                   ("beat 0", "0 7"), ("show 0 9", "done"), ("show 1 8", "done"), ("beat 1", "5 0"), ("beat 400", "5 0"),
                   ("show 0 6", "done"), ("rest", "1"), ("rest", "0"), ("turns", "6"), ("beat 999999", "5 0"))

    def test_turn_in_any_order_and_twice(self):
        self.asked(BOTH, ("turn 1 0", "0 1"), ("standing", "5 0"), ("undo", "done"), ("turn 0 0 0", "0"),
                   ("standing", "5 8"), ("turns", "1"))

    def test_hold_and_loose(self):
        self.asked(BOTH, ("held", "-"), ("hold 1", "done"), ("held", "1"), ("hold 1", "refused Held"),
                   ("show 1 3", "done"), ("standing", "9 3"), ("turn 0", "0"), ("turn 1", "1"), ("standing", "5 8"),
                   ("hold 0", "done"), ("held", "0 1"), ("restless", "-"), ("loose 1", "done"),
                   ("loose 1", "refused NotHeld"), ("held", "0"), ("restless", "1"))

    def test_undo(self):
        self.asked(BOTH, ("undo", "nothing"), ("beat 0", "9 8"), ("undo", "done"), ("undo", "nothing"), ("rest", "1"),
                   ("hold 0", "done"), ("loose 1", "refused NotHeld"), ("undo", "done"), ("held", "-"), ("turns", "2"),
                   ("undo", "done"), ("turns", "0"), ("standing", "9 8"), ("undo", "nothing"))

    def test_refused(self):
        self.asked(BOTH, ("turn 2", "refused NoPerson"), ("turn 0 2", "refused NoPerson"), ("standing", "9 8"),
                   ("show 2 0", "refused NoPerson"), ("hold 2", "refused NoPerson"), ("loose 999999", "refused NoPerson"),
                   ("loose 0", "refused NotHeld"), ("late", "refused HasRound"), ("swept", "refused HasRound"),
                   ("undo", "nothing"))

    def test_firm(self):
        self.asked("hall 2\nheld 1\nsum 0 0:3\nstanding 1 9", ("firm", "0 | 3"), ("rest", "1"), ("firm", "0 1 | -"),
                   ("show 0 7", "done"), ("firm", "- | 0"))
        self.asked("hall 2\nheld 4\nheld 5\nstanding 9 9", ("firm", "- | 4"))

    def test_rests(self):
        self.asked(BOTH, ("rests", "0 0; 0 7; 5 0"), ("plain", "0 0"), ("hold 0", "done"), ("rests", "9 0"),
                   ("loose 0", "done"), ("show 0 3", "done"), ("hold 0", "done"), ("rests", "3 0; 3 7"), ("plain", "3 0"))
        self.asked("hall 1\nheld 3\nstanding 0", ("rests", "3"), ("plain", "3"))

    def test_a_hold_may_end_a_round(self):
        self.asked(BOTH, ("late", "refused HasRound"), ("hold 1", "done"), ("late", "3 1"), ("swept", "0 8"),
                   ("standing", "9 8"), ("loose 1", "done"), ("swept", "refused HasRound"))
        self.asked("hall 1\nfree 0\nstanding 5", ("late", "1"), ("swept", "0"))

    def test_too_many_rests(self):
        self.asked(hall_text(row_hall(8)) + "\nstanding" + " 0" * 8, ("rests", "; ".join(by_blanks(one) for one in rests_of(row_hall(8)))))
        rows = ["hall 8"] + ["sum 0 " + " ".join(f"{other}:1" for other in range(8) if other != person)
                             for person in range(8)]
        sheet = "\n".join(rows) + "\nstanding" + " 1" * 8
        self.asked(sheet, ("rests", "refused TooMany"), ("undo", "nothing"), ("restless", " ".join("01234567")),
                   ("rest", "1"), ("rests", "refused TooMany"), ("standing", "0 0 0 0 0 0 0 0"))

    def test_turns_and_restless(self):
        self.asked("hall 4\nsum 0\nsum 0 0:1\nsum 0 0:1 1:1\nsum 0 0:1 1:1 2:1\nstanding 1 2 0 1", ("restless", "0 1"),
                   ("turns", "0"), ("beat 2", "0 1 0 2"), ("turns", "3"), ("restless", "3"), ("rest", "1"), ("turns", "4"),
                   ("restless", "-"))

    def test_each_word_of_a_hall(self):
        sheet = ("hall 6\nheld 5\nsum 1 0:2 5:999999\ncap 0 3 0:2 1:2\nkinds 1 0 1 2\nnext 0 3\nfree 0 1 2 3 4 5\n"
                 "standing 0 999999 7 7 7 7")
        self.asked(sheet, ("beat 1", "5 1000002 2 2 1 1"), ("show 1 999999", "done"), ("standing", "5 999999 2 2 1 1"))

    def test_kinds_and_names(self):
        told = answers(text=BOTH + "\nheld\nrest")
        self.assertIs(type(told), list)
        self.assertTrue(all(type(one) is str for one in told))
        told.append("x")
        self.assertEqual(answers(BOTH + "\nheld\nrest"), ["-", "1"])

    def test_sixty_rows(self):
        rows = ["turn 0", "undo"] * 28
        self.assertEqual(answers("\n".join([BOTH, *rows])), ["0", "done"] * 28)

    def test_as_the_document_says(self):
        seen = set()
        for chance, hall, standing in [*small_halls(1801, 120, 4), *some_webs(1802, 60, 4)]:
            standing = tuple(min(shown, 999999) for shown in standing)
            many = len(hall)
            rows = []
            for _ in range(16):
                person = chance.randint(0, many) if chance.random() < 0.3 else chance.randrange(many)
                rows.append(chance.choice((
                    f"turn {person}", f"turn {chance.randrange(many)} {person}", f"beat {chance.randint(0, 3)}", "rest",
                    f"show {person} {chance.randint(0, 9)}", f"hold {person}", f"hold {person}", f"loose {person}",
                    "undo", "undo", "standing", "restless", "firm", "held", "plain", "rests", "late", "swept", "turns")))
            naive = NaiveHouse(hall, standing)
            wanted = [naive_answer(naive, row) for row in rows]
            sheet = "\n".join([hall_text(hall), "standing " + by_blanks(standing), *rows])
            self.assertEqual(answers(sheet), wanted)
            seen |= {told for told in wanted if not told[0].isdigit()}
        self.assertLess({"refused NoPerson", "refused Held", "refused NotHeld", "refused HasRound", "done", "nothing", "-"},
                        seen)


class BadRowTest(unittest.TestCase):
    def bad(self, text, row):
        with self.assertRaises(BadRow) as caught:
            answers(text)
        self.assertEqual(caught.exception.row, row, text)
        self.assertEqual(naive_bad_sheet_row(text), row, text)

    def test_empty(self):
        self.bad("", 0)
        self.bad("\n", 0)
        self.bad("\n" + BOTH, 0)

    def test_the_halls_rows(self):
        for row in ("hall", "hall 0", "hall 02", "hall  2", "hall 2 ", "hall x", "hall 1234567", "standing 9 8", "rest"):
            self.bad(row + "\nheld 1\nheld 2\nstanding 1 2\nrest", 0)
        for row in ("", "held", "held 01", "held 1000000", "sum 0 0:1000000", "sum 1000000", "cap 0 1234567", "next 2",
                    "next 1000000", "next 1 0", "sum 0 0:0", "free 0 ", "fly", "standing 1 2", "rest", "turn 0"):
            self.bad("hall 2\nheld 1\n" + row + "\nstanding 1 2\nrest", 2)
            self.bad("hall 2\n" + row + "\nheld 1\nstanding 1 2\nrest", 1)

    def test_six_figures(self):
        self.assertEqual(answers("hall 1\nsum 999999 0:999999\nstanding 999999\nbeat 0\nshow 999999 999999"),
                         ["999999", "refused NoPerson"])
        for row in ("standing 1000000", "standing 0000001", "standing 12345678901234567890"):
            self.bad("hall 1\nheld 0\n" + row, 2)
        for row in ("turn 1000000", "turn 0 1234567", "beat 1000000", "show 0 1000000", "show 1000000 0", "hold 1000000",
                    "loose 1234567", "turn 1" + "0" * 190, "beat 0000000"):
            self.bad("hall 1\nheld 0\nstanding 0\n" + row, 3)
            self.bad("hall 1\nheld 0\nstanding 0\nrest\n" + row + "\nfly", 4)
        self.bad("hall 1\nheld 1" + "0" * 6000 + "\nstanding 0", 1)
        self.bad("hall 1\nheld 0\nstanding 0\nturn 1" + "0" * 6000, 3)

    def test_rows_that_lack(self):
        self.bad("hall 2", 1)
        self.bad("hall 999999", 1)
        self.bad("hall 2\nheld 1", 2)
        self.bad("hall 2\nheld 1\nheld 2", 3)
        self.bad("hall 1\nfree", 2)
        self.bad("hall 3\nheld 1\nheld 2\nstanding 1 2", 3)

    def test_standing(self):
        for row in ("", "standing", "standing ", "standing 1", "standing 1 ", "standing 1 2 3", "standing 1 2 ",
                    "standing 1  2", " standing 1 2", "standing 01 2", "standing 1 x", "standing 1 -2", "standing 1:2",
                    "standing 1 2:3", "standing 1,2", "Standing 1 2", "stand 1 2", "1 2", "standing 1 \u0662", "rest",
                    "turn 0", "held 1", "undo", "turns 1 2"):
            self.bad("hall 2\nheld 1\nheld 2\n" + row, 3)
            self.bad("hall 2\nheld 1\nheld 2\n" + row + "\nrest\nfly", 3)

    def test_rows_behind(self):
        for row in ("", " ", "fly", "turn", "turn ", "turn  0", "turn 0 ", "turn 0  1", " turn 0", "turn 00", "turn 01",
                    "turn -1", "turn +1", "turn x", "turn 0:1", "turn 0,1", "Turn 0", "turns 0", "turn 0 01", "turn \u0660",
                    "turn \u00b2", "beat", "beat ", "beat 1 2", "beat 01", "beat x", "beat -1", "beat 1:1", "rest ", "rest 0",
                    "rest 1", "Rest", "show", "show 0", "show 0 1 2", "show 0:1", "show 0 01", "show 00 1", "show 0 x",
                    "show  0 1", "hold", "hold ", "hold 0 1", "hold 00", "hold x", "loose", "loose 0 1", "loose 00",
                    "loose -1", "undo ", "undo 1", "standing 1 2", "standing ", "restless 0", "firm ", "firm 0", "held 0",
                    "held 1", "plain 0", "rests 1", "late 0", "swept 1 2", "turns 1", "rule 0 held 1", "rule 0", "do", "do 0",
                    "log", "twin", "deeds", "line", "hall", "hall 2", "sum 0", "next", "free", "0", "-", "nothing",
                    "standing:", "firm:1", "rest\r", "rest\t", "\trest"):
            self.bad(BOTH + "\n" + row, 4)
            self.bad(BOTH + "\nrest\nundo\n" + row + "\nrest", 6)

    def test_ahead_of_all(self):
        # What is refused further up is no matter.
        self.bad(BOTH + "\nhold 9\nloose 0\nlate\nfly\n", 7)
        self.bad(BOTH + "\nrest\n", 5)

    def test_as_the_document_says(self):
        chance = random.Random(1811)
        good = bad = 0
        for _, hall, standing in small_halls(1812, 400, 3):
            rows = [chance.choice(("turn 0", "turn 0 1", "beat 2", "rest", "show 0 12", "hold 1", "loose 0", "undo",
                                   "standing", "firm", "held", "turns", "late")) for _ in range(3)]
            text = "\n".join([hall_text(hall), "standing " + by_blanks(standing), *rows])
            for _ in range(chance.randint(1, 2)):
                at = chance.randrange(len(text) + 1)
                sign = chance.choice(" \n:0123x") if chance.random() < 0.8 else chance.choice(
                    ("rest\n", "\nundo", " 1:2", " 0", "999999", "1000000", "turn ", "standing"))
                text = text[:at] + chance.choice((sign, "")) + text[at + chance.randint(0, 1):]
            wanted = naive_bad_sheet_row(text)
            self.assertEqual(bad_row_of(text), wanted, text)
            good, bad = good + (wanted is None), bad + (wanted is not None)
        self.assertGreater(min(good, bad), 60)


class RestsTest(unittest.TestCase):
    def test_rests_of_a_sheet_are_rests(self):
        for _, hall, standing in small_halls(1821, 40, 4):
            told, = answers("\n".join([hall_text(hall), "standing " + by_blanks(standing), "rests"]))
            rests = [tuple(map(int, rest.split())) for rest in told.split("; ")]
            self.assertEqual(rests, sorted(rests))
            for rest in rests:
                self.assertTrue(naive_is_rest(Hall(hall.rules()), rest))


if __name__ == "__main__":
    unittest.main()
