"""[4], with [2] and [3]: rules.py."""

import copy
import itertools
import unittest

from lesserhall.rules import is_rule, most_of, seen_by, told_of
from tests.helper import naive_told

GOOD = [
    ("held", 0),
    ("held", 10 ** 6),
    ("sum", 0, ()),
    ("sum", 999, ((0, 99), (2, 1))),
    ("cap", 3, ((0, 2), (1, 2), (2, 2)), 6),
    ("cap", 3, (), 0),
    ("kinds", 0, ()),
    ("kinds", 4, (0, 1, 2)),
    ("next", ()),
    ("next", (1,)),
    ("free", ()),
    ("free", (0, 2)),
]

# What may stand in the place of a part, and is neither a number nor a tuple.
ODD = [True, False, None, -1, "", "1", [], [1], [(0, 1)], ["held", 1]]


def lots_of(persons, numbers):
    """All lots of some of these persons, showing some of these numbers."""
    for many in range(len(persons) + 1):
        for some in itertools.combinations(persons, many):
            for shown in itertools.product(numbers, repeat=many):
                yield list(zip(some, shown))


class IsRuleTest(unittest.TestCase):
    def no(self, many, thing):
        with self.subTest(thing):
            self.assertIs(is_rule(many, thing), False)

    def test_rules_are_rules(self):
        for rule in GOOD:
            with self.subTest(rule):
                self.assertIs(is_rule(3, rule), True)
                self.assertIs(is_rule(many=3, thing=rule), True)

    def test_great_numbers_are_not_looked_at(self):
        great = 10 ** 5000
        self.assertTrue(is_rule(1, ("held", great)))
        self.assertTrue(is_rule(1, ("sum", great, ((0, great),))))
        self.assertTrue(is_rule(1, ("cap", 1000, ((0, 100),), great)))
        self.assertTrue(is_rule(1, ("kinds", great, (0,))))

    def test_sees_nobody_itself_the_last_person(self):
        for rule in (("sum", 0, ()), ("sum", 0, ((0, 1),)), ("sum", 0, ((11, 1),)),
                     ("kinds", 0, (11,)), ("next", (11,)), ("free", tuple(range(12)))):
            self.assertTrue(is_rule(12, rule))

    def test_persons_that_are_not_there(self):
        for person in (3, 4, 12, 10 ** 9, -1):
            self.no(3, ("sum", 0, ((person, 1),)))
            self.no(3, ("cap", 0, ((0, 1), (person, 1)), 5))
            self.no(3, ("kinds", 0, (person,)))
            self.no(3, ("next", (0, person)))
            self.no(3, ("free", (person,)))
        self.no(0, ("free", (0,)))

    def test_other_words(self):
        for word in ("", "Held", "held ", "hold", "sums", "mex", "cap\n", "number", "ties", "seen",
                     None, 0, True, [], ["held"], ("held",), ()):
            self.no(3, (word, 1))
            self.no(3, (word, 1, ()))
            self.no(3, (word, ()))
            self.no(3, (word, 1, (), 1))
            self.no(3, (word,))

    def test_a_part_out_or_too_many(self):
        for rule in GOOD:
            for many in range(len(rule)):
                self.no(3, rule[:many])
            self.no(3, rule + (1,))
            self.no(3, rule + ((),))
            self.no(3, rule + (None,))

    def test_lists_for_tuples(self):
        for rule in GOOD:
            self.no(3, list(rule))
            self.no(3, [rule])
            self.no(3, (rule,))
        self.no(3, ("sum", 0, []))
        self.no(3, ("sum", 0, [(0, 1)]))
        self.no(3, ("sum", 0, ([0, 1],)))
        self.no(3, ("cap", 0, ((0, 1), [1, 1]), 3))
        self.no(3, ("cap", 0, [], 3))
        self.no(3, ("kinds", 0, [0]))
        self.no(3, ("next", []))
        self.no(3, ("free", [0, 1]))

    def test_what_does_not_rise_or_stands_twice(self):
        for ties in (((1, 1), (0, 1)), ((0, 1), (0, 2)), ((0, 1), (0, 1)), ((0, 1), (2, 1), (1, 9))):
            self.no(3, ("sum", 0, ties))
            self.no(3, ("cap", 0, ties, 9))
        for seen in ((1, 0), (0, 0), (0, 2, 1), (2, 2)):
            self.no(3, ("kinds", 0, seen))
            self.no(3, ("next", seen))
            self.no(3, ("free", seen))

    def test_weights(self):
        for weight in (0, *ODD, (), (1,)):
            self.no(3, ("sum", 0, ((0, weight),)))
            self.no(3, ("cap", 0, ((0, 1), (1, weight)), 4))
        self.assertTrue(is_rule(3, ("sum", 0, ((0, 1),))))

    def test_pairs_that_are_none(self):
        for pair in (*ODD, 0, 1, (), (0,), (0, 1, 1), ((0, 1),)):
            self.no(3, ("sum", 0, (pair,)))
            self.no(3, ("cap", 0, (pair,), 4))
            self.no(3, ("sum", 0, ((0, 1), pair)))

    def test_odd_persons(self):
        for person in (*ODD, (), (0,)):
            self.no(3, ("sum", 0, ((person, 1),)))
            self.no(3, ("kinds", 0, (person,)))
            self.no(3, ("next", (person,)))
            self.no(3, ("free", (0, person)))

    def test_odd_numbers(self):
        for number in (*ODD, (), (1,)):
            self.no(3, ("held", number))
            self.no(3, ("sum", number, ()))
            self.no(3, ("cap", number, (), 1))
            self.no(3, ("cap", 1, (), number))
            self.no(3, ("kinds", number, ()))

    def test_odd_ties_and_seen(self):
        for part in (*ODD, 0, 3):
            self.no(3, ("sum", 0, part))
            self.no(3, ("cap", 0, part, 1))
            self.no(3, ("kinds", 0, part))
            self.no(3, ("next", part))
            self.no(3, ("free", part))

    def test_things_of_any_make(self):
        for thing in (*ODD, 0, 1, (), "held", "sum", ("held",), [[]], ((),), (0, 1), {}, {"held": 1}, 1.5, object()):
            self.no(3, thing)

    def test_deeply_nested_and_many_things(self):
        deep_tuple, deep_list = (), []
        for _ in range(11):
            deep_tuple, deep_list = (deep_tuple,), [deep_list]
        for deep in (deep_tuple, deep_list):
            self.no(3, deep)
            self.no(3, (deep, 1))
            self.no(3, ("held", deep))
            self.no(3, ("sum", 0, deep))
            self.no(3, ("sum", 0, ((deep, 1),)))
            self.no(3, ("sum", 0, ((0, deep),)))
            self.no(3, ("next", (deep,)))
        self.no(3, ("free", tuple(range(4000))))
        self.no(3, ("sum", 0, ((0, 1),) * 2000))
        self.assertTrue(is_rule(4000, ("free", tuple(range(3990)))))

    def test_the_thing_stays_as_it_was(self):
        thing = ["sum", 0, [[0, 1], (1, [2])]]
        before = copy.deepcopy(thing)
        is_rule(3, thing)
        is_rule(3, tuple(thing))
        self.assertEqual(thing, before)


class SeenByTest(unittest.TestCase):
    def test_of_each_word(self):
        told = [seen_by(rule) for rule in GOOD]
        self.assertEqual(told, [[], [], [], [0, 2], [0, 1, 2], [], [], [0, 1, 2], [], [1], [], [0, 2]])
        for seen in told:
            self.assertIs(type(seen), list)

    def test_by_name_and_the_askers_own(self):
        for rule in GOOD:
            first = seen_by(rule=rule)
            second = seen_by(rule)
            self.assertIsNot(first, second)
            first.append(99)
            self.assertEqual(second, seen_by(rule))


class ToldOfTest(unittest.TestCase):
    def test_held(self):
        self.assertEqual(told_of(("held", 10 ** 6), []), 10 ** 6)
        self.assertEqual(told_of(("held", 0), []), 0)

    def test_sum(self):
        rule = ("sum", 5, ((0, 10), (1, 20), (3, 99)))
        self.assertEqual(told_of(rule, []), 5)
        self.assertEqual(told_of(rule, [(1, 7)]), 25)
        self.assertEqual(told_of(rule, [(0, 0), (3, 10 ** 6)]), 114)
        self.assertEqual(told_of(rule, [(0, 1), (1, 1), (3, 1)]), 134)

    def test_cap(self):
        rule = ("cap", 5, ((0, 10), (1, 20)), 16)
        self.assertEqual(told_of(rule, []), 5)
        self.assertEqual(told_of(rule, [(0, 3)]), 15)
        self.assertEqual(told_of(rule, [(1, 3)]), 16)
        self.assertEqual(told_of(rule, [(0, 3), (1, 3)]), 16)
        self.assertEqual(told_of(("cap", 5, ((0, 10),), 15), [(0, 3)]), 15)
        self.assertEqual(told_of(("cap", 5, (), 2), []), 2)

    def test_kinds(self):
        rule = ("kinds", 7, (0, 1, 2))
        self.assertEqual(told_of(rule, []), 7)
        self.assertEqual(told_of(rule, [(0, 4), (1, 4), (2, 4)]), 8)
        self.assertEqual(told_of(rule, [(0, 4), (1, 0), (2, 4)]), 9)
        self.assertEqual(told_of(rule, [(0, 4), (1, 0), (2, 5)]), 10)

    def test_next(self):
        rule = ("next", (0, 1, 2))
        self.assertEqual(told_of(rule, []), 0)
        self.assertEqual(told_of(rule, [(1, 0)]), 1)
        self.assertEqual(told_of(rule, [(0, 10 ** 6), (2, 3)]), 10 ** 6 + 1)

    def test_free(self):
        rule = ("free", (0, 1, 2))
        self.assertEqual(told_of(rule, []), 0)
        self.assertEqual(told_of(rule, [(0, 1)]), 0)
        self.assertEqual(told_of(rule, [(0, 2), (1, 0)]), 1)
        self.assertEqual(told_of(rule, [(0, 2), (1, 0), (2, 1)]), 3)
        self.assertEqual(told_of(rule, [(0, 0), (1, 0), (2, 10 ** 6)]), 1)

    def test_names_and_a_tuple_for_the_list(self):
        rule, lot = ("sum", 1, ((0, 2), (1, 3))), ((0, 4), (1, 4))
        self.assertEqual(told_of(rule=rule, lot=lot), 6)
        for rule in GOOD:
            lot = tuple((person, 2) for person in seen_by(rule))
            self.assertEqual(told_of(rule, lot), told_of(rule, list(lot)))

    def test_all_small_lots_as_the_document_says(self):
        for rule in GOOD:
            for lot in lots_of(seen_by(rule), range(4)):
                with self.subTest(rule=rule, lot=lot):
                    before = list(lot)
                    self.assertEqual(told_of(rule, lot), naive_told(rule, lot))
                    self.assertEqual(lot, before)

    def test_never_less_of_a_lot_that_has_all_of_another(self):
        for rule in GOOD:
            for lot in lots_of(seen_by(rule), range(3)):
                for at in range(len(lot)):
                    self.assertLessEqual(told_of(rule, lot[:at] + lot[at + 1:]), told_of(rule, lot))


class MostOfTest(unittest.TestCase):
    def test_of_each_word(self):
        self.assertEqual(most_of(("held", 12)), 12)
        self.assertEqual(most_of(("sum", 5, ((0, 10), (3, 20)))), 35)
        self.assertEqual(most_of(("sum", 5, ())), 5)
        self.assertEqual(most_of(("cap", 5, ((0, 10), (3, 20)), 34)), 34)
        self.assertEqual(most_of(("cap", 5, ((0, 10), (3, 20)), 36)), 35)
        self.assertEqual(most_of(("cap", 5, (), 2)), 2)
        self.assertEqual(most_of(("kinds", 5, (0, 1, 4))), 8)
        self.assertEqual(most_of(("kinds", 5, ())), 5)
        self.assertEqual(most_of(("free", (0, 1, 4))), 3)
        self.assertEqual(most_of(("free", ())), 0)

    def test_none_of_next(self):
        self.assertIsNone(most_of(("next", (0, 1))))
        self.assertIsNone(most_of(rule=("next", ())))

    def test_is_the_greatest_that_is_told(self):
        for rule in GOOD:
            if rule[0] == "next":
                continue
            told = [told_of(rule, lot) for lot in lots_of(seen_by(rule), range(4))]
            with self.subTest(rule):
                self.assertEqual(most_of(rule), max(told))


if __name__ == "__main__":
    unittest.main()
