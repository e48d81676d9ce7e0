"""[8], with (b) of [1], [2] and [3]: levels.py."""

import copy
import unittest

from lesserhall.errors import TooMany
from lesserhall.halls import Hall
from lesserhall.levels import is_sound, next_levels, plain_rest, rests_of, tower_of
from lesserhall.rules import told_of
from lesserhall.turns import is_rest, turned
from tests.helper import (
    ODD, deep, naive_is_rest, naive_rests, naive_seen, naive_told, row_of, side_by_side, small_halls, some_halls,
)

FAR = 10 ** 6
# 0 is held, 1 far up; 2 sees itself and them; 3 the one that's seen by all but 1; 4 sees 2 and 3.
MIXED = Hall([
    ("held", 2),
    ("held", FAR),
    ("sum", 1, ((0, 4), (1, 9), (2, 50), (3, 3))),
    ("next", (0,)),
    ("kinds", 0, (2, 3)),
])
# Four persons with 40 rests, with 50, with 29 and with 69 of them.
FORTY = (("free", (1, 3)), ("next", (0, 2)), ("next", (0, 1, 2, 3)), ("next", (0, 1)))
FIFTY = (("next", (0, 1, 2, 3)), ("next", (0, 1, 2, 3)), ("sum", 0, ((1, 3), (3, 2))), ("free", (0, 1, 2, 3)))
TWENTY_NINE = (("next", (0, 1, 2, 3)), ("next", (1, 2, 3)), ("sum", 0, ((1, 3), (3, 1))), ("sum", 0, ((2, 1), (3, 1))))
SIXTY_NINE = (("kinds", 0, (1, 2, 3)), ("sum", 0, ((0, 1), (2, 1), (3, 1))), ("free", (0, 1, 2, 3)),
              ("kinds", 0, (0, 1, 2, 3)))


def naive_next(hall, tower):
    """What next_levels tells, straight from its words."""
    inside = {person: number for number, persons in tower for person in persons}
    highest = max([number for number, _ in tower], default=-1)
    found = []
    for person, rule in enumerate(hall.rules()):
        if person not in inside:
            number = naive_told(rule, [(other, inside[other]) for other in sorted(naive_seen(rule) & set(inside))])
            if number > highest:
                found.append((number, person))
    return sorted(found)


class TowerOfTest(unittest.TestCase):
    def test_by_the_numbers_shown(self):
        self.assertEqual(tower_of((5, 0, 5, FAR)), [(0, (1,)), (5, (0, 2)), (FAR, (3,))])
        self.assertEqual(tower_of((3, 3, 3)), [(3, (0, 1, 2))])
        self.assertEqual(tower_of((3, 2, 1, 0)), [(0, (3,)), (1, (2,)), (2, (1,)), (3, (0,))])

    def test_one_person(self):
        self.assertEqual(tower_of((0,)), [(0, (0,))])
        self.assertEqual(tower_of((FAR,)), [(FAR, (0,))])

    def test_all_stand_in_it_once(self):
        for _, _, standing in some_halls(81, 100):
            told = tower_of(standing)
            self.assertEqual({person: number for number, persons in told for person in persons},
                             dict(enumerate(standing)))
            self.assertEqual(sum(len(persons) for _, persons in told), len(standing))
            self.assertEqual([number for number, _ in told], sorted(set(standing)))

    def test_names_kinds_and_the_askers_own(self):
        told = tower_of(standing=(1, 0, 1))
        self.assertEqual(told, [(0, (1,)), (1, (0, 2))])
        self.assertIs(type(told), list)
        for level in told:
            self.assertEqual((type(level), type(level[1])), (tuple, tuple))
        told.clear()
        self.assertEqual(tower_of((1, 0, 1)), [(0, (1,)), (1, (0, 2))])


class IsSoundTest(unittest.TestCase):
    def no(self, hall, thing):
        self.assertIs(is_sound(hall, thing), False, thing)

    def test_all_some_none(self):
        for tower in ([], [(0, (3,))], [(2, (0,))], [(2, (0,)), (3, (3,))], [(0, (3,)), (1, (4,)), (2, (0,))],
                      [(1, (2,)), (2, (0,)), (3, (3,)), (FAR, (1,))], [(FAR, (1,))],
                      [(0, (3, 4)), (2, (0,)), (8, (2,)), (FAR, (1,))]):
            self.assertIs(is_sound(MIXED, tower), True, tower)

    def test_not_sound(self):
        for tower in ([(1, (3,))], [(1, (0,))], [(FAR - 1, (1,))], [(2, (0, 3))], [(2, (0,)), (4, (3,))],
                      [(2, (0,)), (5, (3, 2))], [(0, (3,)), (2, (0,)), (3, (4,))], [(51, (2,))]):
            self.no(MIXED, tower)

    def test_of_levels_below_alone(self):
        hall = Hall([("sum", 0, ((1, 1),)), ("sum", 0, ((0, 1),))])
        self.assertIs(is_sound(hall, [(0, (0, 1))]), True)
        self.assertIs(is_sound(hall, [(0, (0,)), (1, (1,))]), True)
        self.no(hall, [(1, (0, 1))])
        self.no(hall, [(0, (0,)), (2, (1,))])

    def test_one_person(self):
        self.assertIs(is_sound(Hall([("sum", 2, ((0, 9),))]), [(2, (0,))]), True)
        self.no(Hall([("sum", 2, ((0, 9),))]), [(11, (0,))])
        self.assertIs(is_sound(Hall([("held", FAR)]), [(FAR, (0,))]), True)
        self.assertIs(is_sound(Hall([("held", FAR)]), []), True)

    def test_of_all_persons_just_the_rests(self):
        for chance, hall, standing in small_halls(82, 300, 4):
            for one in (standing, plain_rest(hall), turned(hall, standing, [0])):
                self.assertIs(is_sound(hall, tower_of(one)), naive_is_rest(hall, one))

    def test_what_is_below_a_level_of_a_rest_is_sound(self):
        for _, hall, _ in some_halls(83, 100):
            tower = tower_of(plain_rest(hall))
            for many in range(len(tower) + 1):
                self.assertIs(is_sound(hall, tower[:many]), True)

    def test_lists_for_tuples_and_tuples_for_lists(self):
        good = [(2, (0,)), (3, (3,))]
        self.assertIs(is_sound(MIXED, good), True)
        for thing in (tuple(good), (), [[2, (0,)], (3, (3,))], [(2, [0]), (3, (3,))], [(2, (0,)), [3, (3,)]],
                      [(2, 0)], [(2, ((0,),))], (2, (0,)), [2, (0,)], good + [()], [()] + good):
            self.no(MIXED, thing)

    def test_out_of_order_twice_bare(self):
        hall = Hall([("held", 1), ("held", 1), ("held", 2), ("held", 0)])
        self.assertIs(is_sound(hall, [(0, (3,)), (1, (0, 1)), (2, (2,))]), True)
        for thing in ([(1, (0, 1)), (0, (3,))], [(2, (2,)), (1, (0,))], [(1, (1, 0))], [(1, (0, 0))],
                      [(1, (0,)), (1, (1,))], [(1, (0,)), (1, (0,))], [(1, (0,)), (2, (2,)), (2, (2,))],
                      [(0, ()), (1, (0,))], [(1, (0,)), (2, ())], [(0, ())], [(1, (0,), 0)], [(1,)]):
            self.no(hall, thing)
        # Once on each of two levels, each of which tells the truth of what is below.
        self.no(Hall([("sum", 0, ((0, 1), (1, 1))), ("held", 0)]), [(0, (0, 1)), (2, (0,))])

    def test_odd_numbers_and_persons(self):
        hall = Hall([("held", 0), ("held", 1), ("next", (0, 1))])
        self.assertIs(is_sound(hall, [(0, (0,)), (1, (1,)), (2, (2,))]), True)
        for odd in ODD:
            self.no(hall, [(odd, (0,))])
            self.no(hall, [(0, (0,)), (odd, (1,))])
            self.no(hall, [(0, (odd,))])
            self.no(hall, [(0, (0,)), (1, (odd,))])
            self.no(hall, [(1, (1, odd))])
            if odd != []:
                self.no(hall, odd)
            self.no(hall, [odd])
            self.no(hall, [(0, odd)])
        for person in (3, 4, 10 ** 6, 10 ** 5000, -1, -3):
            self.no(hall, [(0, (person,))])
            self.no(hall, [(0, (0, person))])

    def test_deep_and_great_things(self):
        for made in (list, tuple):
            thing = deep(made, 12)
            self.no(MIXED, thing)
            self.no(MIXED, [(deep(made, 10), (0,))])
            self.no(MIXED, [(0, (deep(made, 9),))])
        self.no(MIXED, [(2, (0,))] * 1000)
        self.no(MIXED, [(number, (0,)) for number in range(1000)])
        self.no(MIXED, [(2, tuple(range(3900)))])

    def test_names_and_the_thing_stays(self):
        thing = [(2, (0,)), [3, [3]], (4, (4,))]
        before = copy.deepcopy(thing)
        self.assertIs(is_sound(hall=MIXED, thing=thing), False)
        self.assertEqual(thing, before)
        good = [(2, (0,)), (3, (3,))]
        self.assertIs(is_sound(hall=MIXED, thing=good), True)
        self.assertEqual(good, [(2, (0,)), (3, (3,))])


class NextLevelsTest(unittest.TestCase):
    def test_of_the_bare_tower(self):
        self.assertEqual(next_levels(MIXED, []), [(0, 3), (0, 4), (1, 2), (2, 0), (FAR, 1)])
        self.assertEqual(next_levels(Hall([("held", FAR)]), []), [(FAR, 0)])
        self.assertEqual(next_levels(Hall([("sum", 2, ((0, 9),))]), []), [(2, 0)])

    def test_above_its_highest_alone(self):
        self.assertEqual(next_levels(MIXED, [(2, (0,))]), [(3, 3), (5, 2), (FAR, 1)])
        self.assertEqual(next_levels(MIXED, [(2, (0,)), (3, (3,))]), [(8, 2), (FAR, 1)])
        self.assertEqual(next_levels(MIXED, [(FAR, (1,))]), [])
        # Of person 4 a turn tells just the highest number: that's not above it.
        self.assertEqual(next_levels(MIXED, [(1, (2,))]), [(2, 0), (FAR, 1)])

    def test_of_all_persons_none(self):
        self.assertEqual(next_levels(MIXED, tower_of(plain_rest(MIXED))), [])
        self.assertEqual(next_levels(Hall([("held", 0)]), [(0, (0,))]), [])

    def test_as_the_document_says(self):
        for chance, hall, _ in small_halls(84, 300, 6):
            tower = []
            while True:
                told = next_levels(hall, tower)
                self.assertEqual(told, naive_next(hall, tower))
                if not told:
                    break
                number, person = chance.choice(told)
                persons = {other for same, other in told if same == number and chance.random() < 0.5} | {person}
                tower.append((number, tuple(sorted(persons))))
                self.assertIs(is_sound(hall, tower), True)

    def test_names_tuples_and_the_askers_own(self):
        tower = [(2, (0,))]
        told = next_levels(hall=MIXED, tower=tower)
        self.assertIs(type(told), list)
        self.assertEqual({type(pair) for pair in told}, {tuple})
        told.clear()
        self.assertEqual(tower, [(2, (0,))])
        self.assertEqual(next_levels(MIXED, tuple(tower)), [(3, 3), (5, 2), (FAR, 1)])
        self.assertEqual(next_levels(MIXED, ()), next_levels(MIXED, []))


class PlainRestTest(unittest.TestCase):
    def test_built_from_below(self):
        self.assertEqual(plain_rest(MIXED), (2, FAR, 8, 0, 0))
        self.assertEqual(plain_rest(row_of(5)), (0, 0, 0, 0, 0))
        hall = Hall([("held", 1), ("sum", 2, ((0, 3),)), ("sum", 1, ((1, 1),)), ("next", (0, 1, 4)),
                     ("kinds", 3, (0,))])
        self.assertEqual(plain_rest(hall), (1, 5, 1, 0, 4))

    def test_who_is_told_more_on_the_way_is_put_higher(self):
        hall = Hall([("held", 0), ("sum", 1, ((0, 2),)), ("sum", 2, ((1, 7),)), ("cap", 3, ((2, 9),), 5)])
        self.assertEqual(plain_rest(hall), (0, 3, 2, 5))

    def test_one_person_and_far_up(self):
        self.assertEqual(plain_rest(Hall([("held", FAR)])), (FAR,))
        self.assertEqual(plain_rest(Hall([("sum", 3, ((0, 9),))])), (3,))
        self.assertEqual(plain_rest(Hall([("held", FAR), ("sum", 999, ((0, 5),)), ("next", (0,)), ("free", (0, 2))])),
                         (FAR, 999, 0, 0))
        hall = Hall([("held", FAR), ("sum", 999, ((0, 99),)), ("cap", FAR, ((1, 99),), FAR), ("held", 10 ** 30)])
        self.assertEqual(plain_rest(hall), (FAR, 999, FAR, 10 ** 30))

    def test_is_always_a_rest(self):
        for _, hall, _ in some_halls(85, 300):
            self.assertTrue(naive_is_rest(hall, plain_rest(hall)))

    def test_number_by_number(self):
        for _, hall, _ in small_halls(86, 200, 7):
            put = {}
            for number in range(60):
                here = []
                for person, rule in enumerate(hall.rules()):
                    lot = [(other, put[other]) for other in sorted(naive_seen(rule) & set(put))]
                    if person not in put and naive_told(rule, lot) == number:
                        here.append(person)
                put.update((person, number) for person in here)
            self.assertEqual(plain_rest(hall), tuple(put[person] for person in range(len(hall))))

    def test_names_kinds_and_great_rows(self):
        told = plain_rest(hall=row_of(60))
        self.assertEqual(told, (0,) * 60)
        self.assertIs(type(told), tuple)
        self.assertIs(is_sound(row_of(60), tower_of(told)), True)


class RestsOfTest(unittest.TestCase):
    def test_one_rest(self):
        for hall, rest in ((Hall([("held", FAR)]), (FAR,)), (Hall([("sum", 2, ((0, 9),))]), (2,)),
                           (Hall([("held", 3), ("held", 3), ("kinds", 5, (0, 1, 2))]), (3, 3, 6)),
                           (Hall([("held", number) for number in range(8)]), tuple(range(8)))):
            self.assertEqual(rests_of(hall), [rest])

    def test_rows(self):
        self.assertEqual(rests_of(row_of(1)), [(0,)])
        self.assertEqual(rests_of(row_of(3)), [(0, 0, 0), (0, 0, 2), (0, 1, 0), (0, 1, 1), (0, 1, 2)])
        self.assertEqual([len(rests_of(row_of(many))) for many in range(1, 9)], [1, 2, 5, 14, 42, 132, 429, 1430])

    def test_far_up(self):
        hall = Hall([("held", FAR), ("sum", 0, ((0, 99), (2, 3))), ("next", (0, 1))])
        self.assertEqual(rests_of(hall), [(FAR, 0, 0), (FAR, 0, 1), (FAR, 0, FAR + 1), (FAR, 3, 0)])
        hall = Hall([("held", FAR), ("next", (0,)), ("next", (1,))])
        self.assertEqual(rests_of(hall), [(FAR, 0, 0), (FAR, 0, 1), (FAR, FAR + 1, 0), (FAR, FAR + 1, FAR + 2)])

    def test_all_numbers_tried(self):
        for _, hall, _ in small_halls(87, 40, 2):
            many = len(hall)
            grid = [(one,) for one in range(14)]
            if many == 2:
                grid = [(one, other) for one in range(14) for other in range(14)]
            self.assertEqual(rests_of(hall), [standing for standing in grid if naive_is_rest(hall, standing)])

    def test_all_orders_tried(self):
        for _, hall, _ in small_halls(88, 60, 4):
            self.assertEqual(rests_of(hall), naive_rests(hall))
        for _, hall, _ in small_halls(89, 8, 5):
            self.assertEqual(rests_of(hall), naive_rests(hall))
        for _, hall, _ in some_halls(90, 60, 4):
            self.assertEqual(rests_of(hall), naive_rests(hall))

    def test_rise_rest_and_have_the_plain_one(self):
        for _, hall, _ in small_halls(91, 40, 8):
            try:
                told = rests_of(hall)
            except TooMany:
                continue
            self.assertEqual(told, sorted(set(told)))
            self.assertIn(plain_rest(hall), told)
            for rest in told:
                self.assertTrue(is_rest(hall, rest))
                self.assertIs(is_sound(hall, tower_of(rest)), True)

    def test_parts_of_two_thousand(self):
        for rules, many in ((FORTY, 40), (FIFTY, 50), (TWENTY_NINE, 29), (SIXTY_NINE, 69)):
            self.assertEqual(len(rests_of(Hall(rules))), many)
            self.assertEqual(rests_of(Hall(rules)), naive_rests(Hall(rules)))

    def test_just_two_thousand(self):
        told = rests_of(Hall(side_by_side(FORTY, FIFTY)))
        self.assertEqual(told, [one + other for one in rests_of(Hall(FORTY)) for other in rests_of(Hall(FIFTY))])
        self.assertEqual(len(told), 2000)

    def test_too_many(self):
        for rules in (side_by_side(TWENTY_NINE, SIXTY_NINE), side_by_side(SIXTY_NINE, TWENTY_NINE),
                      side_by_side(FIFTY, FIFTY), [("next", tuple(range(8)))] * 8,
                      [("sum", 0, tuple((other, 1) for other in range(8)))] * 8):
            with self.assertRaises(TooMany) as caught:
                rests_of(Hall(rules))
            self.assertEqual(caught.exception.many, 2000)

    def test_names_kinds_and_the_askers_own(self):
        told = rests_of(hall=row_of(2))
        self.assertIs(type(told), list)
        self.assertEqual({type(rest) for rest in told}, {tuple})
        told.append(None)
        self.assertEqual(rests_of(row_of(2)), [(0, 0), (0, 1)])

    def test_what_a_rule_tells_of_more_is_never_less(self):
        # What keeps plain_rest going: nobody is passed by.
        for _, hall, standing in some_halls(92, 100):
            for person, rule in enumerate(hall.rules()):
                lot = [(other, standing[other]) for other in sorted(naive_seen(rule))]
                for at in range(len(lot)):
                    self.assertLessEqual(told_of(rule, lot[:at]), told_of(rule, lot))


if __name__ == "__main__":
    unittest.main()
