"""[12], with (e) of [1], [2] and [3]: rows.py."""

import copy
import itertools
import random
import unittest

from lesserhall.beats import history, rest_by_beats
from lesserhall.errors import BadText, NoRest
from lesserhall.halls import Hall
from lesserhall.levels import rests_of
from lesserhall.rows import (
    brackets_of, is_row_rest, rest_of, row_counts, row_falls, row_hall, row_number, row_rest, row_stops, row_swept,
)
from lesserhall.sweeps import rests_on, swept
from lesserhall.turns import is_rest
from tests.helper import ODD, deep, naive_is_rest, row_of

FAR = 10 ** 6
COUNTS = [1, 2, 5, 14, 42, 132, 429, 1430, 4862, 16796]
# The rests of a row of three, and the brackets that the document tells of them.
THREE = [((0, 0, 0), "()()()"), ((0, 0, 2), "()(())"), ((0, 1, 0), "(())()"), ((0, 1, 1), "(()())"),
         ((0, 1, 2), "((()))")]


def naive_row_rests(many):
    """All rests of a row: all tuples of numbers less than so many are tried."""
    return [shown for shown in itertools.product(range(many), repeat=many)
            if all(sum(other < one for other in shown[:at]) == one for at, one in enumerate(shown))]


def naive_stops(rest):
    """The stops, straight from the words of the document."""
    return [number for number in range(len(rest) + 1) if sum(shown < number for shown in rest) == number]


def naive_brackets(rest):
    """The brackets, straight from the words of the document."""
    text, depth = "", 0
    for at in range(len(rest)):
        shut = len(naive_stops(rest[:at])) - len(naive_stops(rest[:at + 1])) + 1
        text += ")" * shut + "("
        depth += 1 - shut
    return text + ")" * depth


def some_standings(seed, times):
    """Standings of rows of 1 to 60 persons, to 10 ** 6."""
    chance = random.Random(seed)
    for _ in range(times):
        many = chance.choice((1, 2, 3, 4, 6, 12, 30, 60))
        most = chance.choice((1, 2, many, 2 * many, FAR))
        yield chance, tuple(chance.randint(0, most) for _ in range(many))


class RowHallTest(unittest.TestCase):
    def test_rules(self):
        self.assertEqual(row_hall(1).rules(), (("sum", 0, ()),))
        self.assertEqual(row_hall(3).rules(), (("sum", 0, ()), ("sum", 0, ((0, 1),)), ("sum", 0, ((0, 1), (1, 1)))))
        for many in (1, 2, 12, 60):
            self.assertEqual(row_hall(many), row_of(many))
            self.assertEqual(len(row_hall(many=many)), many)
        self.assertIs(type(row_hall(2)), Hall)


class RowStopsTest(unittest.TestCase):
    def test_small_rows(self):
        self.assertEqual(row_stops((0,)), [0, 1])
        self.assertEqual(row_stops((0, 0)), [0, 2])
        self.assertEqual(row_stops((0, 1)), [0, 1, 2])
        self.assertEqual(row_stops((0, 1, 1)), [0, 1, 3])
        self.assertEqual(row_stops((0, 1, 0)), [0, 3])
        self.assertEqual(row_stops((0, 0, 2)), [0, 2, 3])

    def test_sixty(self):
        self.assertEqual(row_stops((0,) * 60), [0, 60])
        self.assertEqual(row_stops(tuple(range(60))), list(range(61)))

    def test_are_what_one_more_may_show(self):
        for many in range(1, 6):
            behind = naive_row_rests(many + 1)
            for rest in naive_row_rests(many):
                self.assertEqual(row_stops(rest), naive_stops(rest))
                self.assertEqual([rest + (stop,) for stop in row_stops(rest)],
                                 [one for one in behind if one[:many] == rest])

    def test_name_and_the_askers_own(self):
        told = row_stops(rest=(0, 0))
        self.assertIs(type(told), list)
        told.clear()
        self.assertEqual(row_stops((0, 0)), [0, 2])


class IsRowRestTest(unittest.TestCase):
    def no(self, thing):
        self.assertIs(is_row_rest(thing), False, thing)

    def test_all_small_tuples(self):
        for many in range(1, 6):
            rests = naive_row_rests(many)
            for thing in itertools.product(range(many + 2), repeat=many):
                self.assertIs(is_row_rest(thing), thing in rests)

    def test_sixty(self):
        for rest in ((0,) * 60, tuple(range(60)), (0,) * 59 + (59,), tuple(range(59)) + (0,)):
            self.assertIs(is_row_rest(rest), True)
        for thing in ((0,) * 59 + (58,), (0,) * 59 + (60,), tuple(range(1, 61)), (0,) * 59 + (FAR,), (1,) + (0,) * 59):
            self.no(thing)

    def test_one_person_at_least(self):
        self.no(())
        self.no([])
        self.assertIs(is_row_rest((0,)), True)
        self.no((1,))
        self.no((FAR,))

    def test_wrong_things(self):
        for thing in ([0], [0, 1], [[0]], ((0,),), [(0,)], ([0],), (0, [1]), (0, (1,)), (False,), (0, True),
                      (0, 0, None), ("0",), "0", "01", "()", (-1,), (0, -1),
                      (0, "1"), (0, None), (0, 1.0), 0, 1, -1, True):
            self.no(thing)
        for odd in ODD:
            self.no(odd)
            self.no((odd,))
            self.no((0, odd))
            self.no((0, 1, odd, 3))
            self.no([0, odd])

    def test_deep_and_great_things(self):
        self.no(deep(list, 12))
        self.no(deep(tuple, 12))
        self.no((0, deep(tuple, 11)))
        self.no([0] * 3999)
        self.assertIs(is_row_rest((0,) * 3999), True)
        self.assertIs(is_row_rest(tuple(range(3999))), True)
        self.no((0,) * 3998 + (1,))
        self.no((10 ** 5000,))

    def test_name_and_the_thing_stays(self):
        thing = [0, [1, (2,)]]
        before = copy.deepcopy(thing)
        self.no(thing)
        self.assertEqual(thing, before)
        self.assertIs(is_row_rest(thing=(0, 1)), True)


class RowSweptTest(unittest.TestCase):
    def test_small_rows(self):
        self.assertEqual(row_swept((FAR,)), (0,))
        self.assertEqual(row_swept((0,)), (0,))
        self.assertEqual(row_swept((5, 5)), (0, 1))
        self.assertEqual(row_swept((5, 0)), (0, 0))
        self.assertEqual(row_swept((0, 0, 1)), (0, 0, 2))
        self.assertEqual(row_swept((0, 1, 5)), (0, 1, 2))
        self.assertEqual(row_swept((0, 1, 1, 2)), (0, 1, 1, 3))

    def test_all_small_standings(self):
        for many in range(1, 5):
            for standing in itertools.product(range(many + 2), repeat=many):
                self.assertEqual(row_swept(standing), swept(row_of(many), standing))

    def test_that_of_its_row(self):
        for _, standing in some_standings(1201, 40):
            self.assertEqual(row_swept(standing), swept(row_of(len(standing)), standing))
            self.assertIs(is_row_rest(row_swept(standing)), True)

    def test_a_rest_stays(self):
        for rest in naive_row_rests(5):
            self.assertEqual(row_swept(rest), rest)

    def test_name_and_sixty(self):
        told = row_swept(standing=(FAR,) * 60)
        self.assertEqual(told, tuple(range(60)))
        self.assertIs(type(told), tuple)


class NumbersTest(unittest.TestCase):
    def test_counts(self):
        self.assertEqual([row_counts(many) for many in range(1, 11)], COUNTS)
        self.assertEqual(row_counts(many=6), len(naive_row_rests(6)))
        self.assertEqual(row_counts(8), len(rests_of(row_of(8))))
        self.assertEqual(row_counts(60), 1583850964596120042686772779038896)

    def test_counts_as_parted(self):
        # A bracketing is one within the first brackets and one behind them.
        counts = [1]
        while len(counts) <= 60:
            counts.append(sum(one * other for one, other in zip(counts, counts[::-1])))
        self.assertEqual([row_counts(many) for many in range(1, 61)], counts[1:])

    def test_each_by_its_number_and_back(self):
        for many in range(1, 7):
            rests = naive_row_rests(many)
            self.assertEqual([row_rest(many, number) for number in range(len(rests))], rests)
            self.assertEqual([row_number(rest) for rest in rests], list(range(len(rests))))
        self.assertEqual([row_rest(8, number) for number in range(1430)], rests_on(row_of(8)))

    def test_sixty(self):
        many = row_counts(60)
        self.assertEqual(row_rest(60, 0), (0,) * 60)
        self.assertEqual(row_rest(60, 1), (0,) * 59 + (59,))
        self.assertEqual(row_rest(60, many - 1), tuple(range(60)))
        self.assertEqual((row_number((0,) * 60), row_number(tuple(range(60)))), (0, many - 1))
        chance = random.Random(1202)
        for _ in range(40):
            number = chance.randrange(many - 1)
            one, other = row_rest(60, number), row_rest(60, number + 1)
            self.assertEqual(row_number(one), number)
            self.assertLess(one, other)
            self.assertTrue(naive_is_rest(row_of(60), one))

    def test_first_and_last(self):
        for many in (1, 2, 3, 12):
            self.assertEqual(row_rest(many, 0), (0,) * many)
            self.assertEqual(row_rest(many, row_counts(many) - 1), tuple(range(many)))

    def test_no_rest(self):
        for many in (1, 2, 3, 60):
            beyond = row_counts(many)
            for number in (-1, -2, -beyond, -beyond - 1, -10 ** 40, beyond, beyond + 1, 2 * beyond, 10 ** 40,
                           10 ** 5000):
                with self.assertRaises(NoRest) as caught:
                    row_rest(many, number)
                self.assertEqual(caught.exception.number, number)

    def test_names_and_kinds(self):
        told = row_rest(many=3, number=2)
        self.assertEqual(told, (0, 1, 0))
        self.assertIs(type(told), tuple)
        self.assertEqual(row_number(rest=told), 2)


class BracketsTest(unittest.TestCase):
    def test_as_the_document_tells(self):
        for rest, text in [((0,), "()"), ((0, 0), "()()"), ((0, 1), "(())")] + THREE:
            self.assertEqual(brackets_of(rest), text)
            self.assertEqual(rest_of(text), rest)

    def test_straight_from_its_words(self):
        for many in range(1, 8):
            for number in range(row_counts(many)):
                rest = row_rest(many, number)
                self.assertEqual(brackets_of(rest), naive_brackets(rest))

    def test_each_text_is_of_one_rest(self):
        for signs in range(0, 11):
            found = []
            for text in map("".join, itertools.product("()", repeat=signs)):
                depths = list(itertools.accumulate(1 if sign == "(" else -1 for sign in text))
                if text and min(depths) >= 0 and depths[-1] == 0:
                    rest = rest_of(text)
                    self.assertEqual(brackets_of(rest), text)
                    found.append(rest)
                else:
                    with self.assertRaises(BadText) as caught:
                        rest_of(text)
                    self.assertEqual(caught.exception.text, text)
            wanted = naive_row_rests(signs // 2) if signs and signs % 2 == 0 else []
            self.assertEqual(sorted(found), wanted)

    def test_bad_texts(self):
        for text in ("", " ", "(", ")", "((", "))", ")(", "(()", "())", "()(", "())(", "())(()", "() ", " ()", "( )",
                     "[]", "(a)", "()\n", "{}", "0", "(0)", "()()x", "<>", "\u0000", "\uff08\uff09", "(" * 60, ")" * 60,
                     "(" * 60 + ")" * 59, "(" * 60 + ")" * 61, "(" * 10 ** 5, "()" * 10 ** 4 + ")"):
            with self.assertRaises(BadText) as caught:
                rest_of(text)
            self.assertEqual(caught.exception.text, text)

    def test_sixty(self):
        self.assertEqual(brackets_of((0,) * 60), "()" * 60)
        self.assertEqual(brackets_of(tuple(range(60))), "(" * 60 + ")" * 60)
        self.assertEqual(rest_of("()" * 60), (0,) * 60)
        self.assertEqual(rest_of("(" * 60 + ")" * 60), tuple(range(60)))
        chance = random.Random(1203)
        for _ in range(40):
            rest = row_rest(60, chance.randrange(row_counts(60)))
            text = brackets_of(rest)
            self.assertEqual(text, naive_brackets(rest))
            self.assertEqual(rest_of(text), rest)

    def test_names_and_kinds(self):
        self.assertIs(type(brackets_of(rest=(0, 1))), str)
        self.assertIs(type(rest_of(text="(())")), tuple)


class RowFallsTest(unittest.TestCase):
    def test_small_rows(self):
        self.assertEqual(row_falls((5, 5, 5)), [3])
        self.assertEqual(row_falls((FAR,)), [1])
        self.assertEqual(row_falls((0, 2)), [1])
        # (0, 0, 1, 3) -> (0, 0, 2, 3): the third one rises.
        self.assertEqual(row_falls((0, 0, 1, 3)), [0])
        # (1, 0, 1, 2) -> (0, 0, 1, 3) -> (0, 0, 2, 3)
        self.assertEqual(row_falls((1, 0, 1, 2)), [1, 0])

    def test_of_a_rest(self):
        for rest in [(0,), (0, 0), (0, 1), (0,) * 60, tuple(range(60))] + naive_row_rests(4):
            self.assertEqual(row_falls(rest), [])

    def test_as_the_document_says(self):
        longest = 0
        for _, standing in some_standings(1204, 80):
            hall = row_of(len(standing))
            told = history(hall, standing, 61)
            wanted = []
            for one, other in zip(told, told[1:]):
                if one == other:
                    break
                wanted.append(sum(now < before for before, now in zip(one, other)))
            self.assertEqual(row_falls(standing), wanted)
            self.assertEqual(len(wanted), rest_by_beats(hall, standing)[1])
            self.assertEqual(sum(wanted[1:]), 0)
            longest = max(longest, len(wanted))
        self.assertGreater(longest, 2)

    def test_name_and_the_askers_own(self):
        told = row_falls(standing=(1, 0, 1, 2))
        self.assertIs(type(told), list)
        told.clear()
        self.assertEqual(row_falls((1, 0, 1, 2)), [1, 0])


class RowBeatsTest(unittest.TestCase):
    """(e) of [1]: how rows go by beats."""

    def check(self, standing):
        many = len(standing)
        hall = row_hall(many)
        rest, beats = rest_by_beats(hall, standing)
        self.assertLessEqual(beats, max(many - 1, 1))
        self.assertTrue(is_rest(hall, rest))
        self.assertIs(is_row_rest(rest), True)
        told = history(hall, standing, beats)[1:]
        for person in range(many):
            shown = [one[person] for one in told]
            self.assertEqual(shown, sorted(shown))
            paused = [at for at, pair in enumerate(zip(shown, shown[1:])) if pair[0] == pair[1]]
            if paused:
                self.assertEqual(len(set(shown[paused[0]:])), 1)
        return beats

    def test_all_small_standings(self):
        for many in range(1, 6):
            beats = [self.check(standing) for standing in itertools.product(range(many + 1), repeat=many)]
            # Just so many are needed: none of these bounds is told too wide.
            self.assertEqual(max(beats), max(many - 1, 1))

    def test_great_rows(self):
        for _, standing in some_standings(1205, 60):
            self.check(standing)


if __name__ == "__main__":
    unittest.main()
