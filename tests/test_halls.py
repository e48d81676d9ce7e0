"""[5], with [2] and [3]: halls.py."""

import unittest
from unittest import mock

from lesserhall.errors import BadHall, NoPerson
from lesserhall.halls import Hall, is_standing
from lesserhall.rules import seen_by
from tests.helper import row_of, some_halls

RULES = (
    ("held", 10 ** 6),
    ("sum", 3, ((0, 2), (1, 1))),
    ("cap", 0, ((0, 1), (3, 99)), 50),
    ("kinds", 1, (1, 2, 3, 5)),
    ("next", ()),
    ("free", (0, 5)),
)
SEEN = [[], [0, 1], [0, 3], [1, 2, 3, 5], [], [0, 5]]
SEERS = [[1, 2, 5], [1, 3], [3], [2, 3], [], [3, 5]]

# What may stand in the place of a rule and is none, of a hall of three.
NO_RULES = [
    None, True, False, 0, -1, "held", "", (), [], ("held",), ["held", 1], ("held", -1), ("held", True), ("held", "1"),
    ("held", 1, 2), ("hold", 1), (["held"], 1), ("sum", 0), ("sum", 0, [(0, 1)]), ("sum", 0, ((0, 0),)),
    ("sum", 0, ((3, 1),)), ("sum", 0, ((1, 1), (0, 1))), ("sum", 0, ((1, 1), (1, 2))), ("cap", 0, ()),
    ("cap", 0, (), None), ("kinds", 0, (0, 0)), ("kinds", (), 0), ("next", [0]), ("next", (-1,)), ("free", (0, 3)),
    ("free", ((((0,),),),)), {}, {"held": 1}, {1}, 1.5, b"held", object(), Hall, Hall([("held", 1)]),
]


class HallTest(unittest.TestCase):
    def setUp(self):
        self.hall = Hall(RULES)

    def test_rules(self):
        self.assertEqual(self.hall.rules(), RULES)
        self.assertIs(type(self.hall.rules()), tuple)
        self.assertIs(type(Hall(list(RULES)).rules()), tuple)

    def test_rule_sees_seers(self):
        for person, rule in enumerate(RULES):
            self.assertEqual(self.hall.rule(person), rule)
            self.assertEqual(self.hall.sees(person), SEEN[person])
            self.assertEqual(self.hall.seers(person), SEERS[person])
            self.assertIs(type(self.hall.sees(person)), list)
            self.assertIs(type(self.hall.seers(person)), list)

    def test_seers_see(self):
        for _, hall, _ in some_halls(51, 100):
            for person in range(len(hall)):
                self.assertEqual(hall.sees(person), seen_by(hall.rules()[person]))
                self.assertEqual(hall.seers(person),
                                 [other for other in range(len(hall)) if person in hall.sees(other)])

    def test_by_names(self):
        hall = Hall(rules=RULES)
        self.assertEqual(hall.rule(person=1), RULES[1])
        self.assertEqual(hall.sees(person=1), [0, 1])
        self.assertEqual(hall.seers(person=1), [1, 3])
        self.assertIs(is_standing(hall=hall, thing=(0,) * 6), True)

    def test_one_and_twelve_persons(self):
        self.assertEqual(Hall([("free", (0,))]).seers(0), [0])
        self.assertEqual(Hall([("held", 0)]).seers(0), [])
        twelve = row_of(12)
        self.assertEqual(len(twelve), 12)
        self.assertEqual(twelve.sees(11), list(range(11)))
        self.assertEqual(twelve.seers(0), list(range(1, 12)))
        self.assertEqual(len(row_of(60)), 60)

    def test_nobody_called_so(self):
        for hall in (self.hall, Hall([("held", 1)])):
            many = len(hall)
            for person in (many, many + 1, 100, 10 ** 6, 10 ** 5000, -1, -many, -many - 1, -10 ** 9):
                for ask in (hall.rule, hall.sees, hall.seers):
                    with self.assertRaises(NoPerson) as caught:
                        ask(person)
                    self.assertEqual(caught.exception.person, person)

    def test_bad_halls(self):
        good = ("sum", 0, ((0, 1), (2, 1)))
        for thing in NO_RULES:
            for at in range(3):
                rules = [good] * 3
                rules[at] = thing
                for handed in (rules, tuple(rules)):
                    with self.subTest(thing=thing, at=at):
                        with self.assertRaises(BadHall) as caught:
                            Hall(handed)
                        self.assertEqual(caught.exception.person, at)

    def test_the_first_bad_one(self):
        for rules, person in (([None, ("held", 0), None], 0), ([("held", 0), (), ("next", (9,))], 1),
                              ([("held", 0), ("next", (3,)), 7], 1), ([("next", (1,))], 0), ([[]], 0)):
            with self.assertRaises(BadHall) as caught:
                Hall(rules)
            self.assertEqual(caught.exception.person, person)

    def test_sees_of_so_many_alone(self):
        with self.assertRaises(BadHall) as caught:
            Hall([("held", 0), ("sum", 0, ((2, 1),))])
        self.assertEqual(caught.exception.person, 1)
        self.assertEqual(len(Hall([("held", 0), ("sum", 0, ((2, 1),)), ("held", 0)])), 3)

    def test_equal(self):
        self.assertTrue(self.hall == Hall(list(RULES)))
        self.assertFalse(self.hall != Hall(RULES))
        self.assertFalse(self.hall == Hall(RULES[:5] + (("held", 0),)))
        self.assertTrue(Hall([("held", 1)]) != Hall([("held", 2)]))
        self.assertFalse(Hall([("held", 1)]) == Hall([("held", 1), ("held", 1)]))
        self.assertFalse(Hall([("free", ())]) == Hall([("next", ())]))

    def test_equal_to_nothing_of_another_class(self):
        for other in (RULES, list(RULES), None, 6, "Hall(6 persons)", {}, object(), Hall, mock.ANY):
            self.assertFalse(self.hall == other)
            self.assertIs(self.hall.__eq__(other), False)

    def test_len_and_repr(self):
        self.assertEqual(len(self.hall), 6)
        self.assertEqual(repr(self.hall), "Hall(6 persons)")
        self.assertEqual(repr(Hall([("held", 0)])), "Hall(1 persons)")
        self.assertEqual(repr(row_of(12)), "Hall(12 persons)")

    def test_what_is_handed_in_is_not_kept(self):
        rules = list(RULES)
        hall = Hall(rules)
        self.assertEqual(rules, list(RULES))
        rules[0] = ("held", 3)
        rules.append(("held", 4))
        self.assertEqual(hall.rules(), RULES)
        self.assertEqual(len(hall), 6)
        self.assertEqual(hall, self.hall)

    def test_what_is_told_is_the_askers_own(self):
        for person in range(6):
            for ask in (self.hall.sees, self.hall.seers):
                first, second = ask(person), ask(person)
                self.assertIsNot(first, second)
                first.append(77)
                first.insert(0, 78)
                self.assertEqual(second, ask(person))
        self.assertEqual([self.hall.sees(person) for person in range(6)], SEEN)
        self.assertEqual([self.hall.seers(person) for person in range(6)], SEERS)
        self.assertEqual(self.hall, Hall(RULES))


class IsStandingTest(unittest.TestCase):
    def setUp(self):
        self.hall = Hall([("held", 1), ("next", (0,)), ("free", (1,))])

    def test_standings(self):
        for thing in ((0, 0, 0), (10 ** 6, 0, 3), (10 ** 5000, 1, 1)):
            self.assertIs(is_standing(self.hall, thing), True)
        self.assertIs(is_standing(Hall([("held", 1)]), (5,)), True)
        self.assertIs(is_standing(row_of(12), (0,) * 12), True)
        self.assertIs(is_standing(row_of(12), (0,) * 11), False)

    def test_things_of_any_make(self):
        deep = (0, 0)
        for _ in range(11):
            deep = (0, 0, deep)
        for thing in (None, True, False, 0, 3, -1, "", "000", (), [], [0, 0, 0], (0, 0), (0, 0, 0, 0), (0,) * 4000,
                      (0, 0, -1), (0, True, 0), (False, 0, 0), (0, None, 0), (0, "0", 0), (0, 0, [0]), (0, 0, (0,)),
                      ((0, 0, 0),), [(0, 0, 0)], ((0, 0), 0, 0), deep, [[]] * 3, ([], [], []), (0, 0, "")):
            with self.subTest(thing):
                self.assertIs(is_standing(self.hall, thing), False)

    def test_the_thing_stays_as_it_was(self):
        inner = [0]
        thing = (0, 0, inner)
        is_standing(self.hall, thing)
        self.assertEqual(thing, (0, 0, [0]))


if __name__ == "__main__":
    unittest.main()
