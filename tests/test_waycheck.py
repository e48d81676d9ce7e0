"""[10], with (f) of [1], [2] and [3]: waycheck.py."""

import copy
import itertools
import unittest

from lesserhall.halls import Hall
from lesserhall.waycheck import shows_never
from lesserhall.ways import come_to
from tests.helper import ODD, deep, naive_turned, row_of, small_halls
from tests.test_ways import JUST, PAIR

FAR = 10 ** 6
WAYS = [(0, 7), (0, 8), (5, 0), (5, 7), (5, 8), (9, 0), (9, 8)]


class ShowsNeverTest(unittest.TestCase):
    def no(self, thing, hall=PAIR, standing=(9, 8), person=0, number=3):
        self.assertIs(shows_never(hall, standing, person, number, thing), False, thing)

    def test_all_that_can_be_come_to(self):
        for person, shown in ((0, {0, 5, 9}), (1, {0, 7, 8})):
            for number in (*range(12), FAR, 10 ** 40):
                self.assertIs(shows_never(PAIR, (9, 8), person, number, WAYS), number not in shown)

    def test_more_than_can_be_come_to(self):
        self.assertIs(shows_never(PAIR, (0, 7), 0, 5, [(0, 7)]), True)
        self.assertIs(shows_never(PAIR, (0, 7), 0, 5, [(0, 0), (0, 7)]), True)
        self.assertIs(shows_never(PAIR, (0, 7), 0, 5, [(0, 7), (5, 0)]), False)
        self.assertIs(shows_never(PAIR, (0, 7), 1, 5, [(0, 7), (5, 0)]), True)

    def test_one_lacks(self):
        for one in WAYS:
            self.no([other for other in WAYS if other != one])

    def test_that_one_is_not_among_them(self):
        self.no([(0, 0)])
        self.no([(0, 0), (0, 7), (5, 0)])
        self.no([])

    def test_one_more_that_a_turn_leaves(self):
        self.assertIs(shows_never(PAIR, (0, 7), 0, 3, [(0, 7), (1, 1)]), False)
        self.assertIs(shows_never(PAIR, (0, 7), 0, 3, [(0, 0), (0, 1), (0, 7), (1, 0), (1, 1)]), False)
        self.assertIs(shows_never(PAIR, (0, 7), 0, 3, [(0, 0), (0, 1), (0, 7), (1, 0), (1, 1), (5, 0)]), True)

    def test_out_of_order_and_twice(self):
        self.assertIs(shows_never(PAIR, (9, 8), 0, 3, list(WAYS)), True)
        self.no(WAYS[::-1])
        self.no(WAYS + WAYS[:1])
        self.no(WAYS[:1] + WAYS)
        self.no(WAYS[:2] + [WAYS[3], WAYS[2]] + WAYS[4:])
        self.no(WAYS + [WAYS[-1]])

    def test_lists_for_tuples_and_tuples_for_lists(self):
        self.no(tuple(WAYS))
        self.no([list(one) for one in WAYS])
        self.no(WAYS[:-1] + [[9, 8]])
        self.no([WAYS])
        self.no((WAYS,))
        self.no((9, 8))
        self.no([(9, 8), 0])

    def test_standings_that_are_none(self):
        for odd in (*ODD, 0, 9, (9,), (9, 8, 7), (9, True), (False, 0), (9, -1), (9, None), (9, "8"), ((9, 8),),
                    (9, [8])):
            self.no(odd)
            self.no([odd])
            self.no(WAYS + [odd])
            self.no([odd] + WAYS)
            self.no([(9, odd)])
        # As Python compares, True is 1 and False 0.
        hall = Hall([("held", 1), ("held", 0)])
        self.assertIs(shows_never(hall, (1, 0), 0, 5, [(1, 0)]), True)
        for thing in ([(True, 0)], [(1, False)], [(True, False)], [(1.0, 0)]):
            self.no(thing, hall, (1, 0), 0, 5)

    def test_deep_and_great_things(self):
        for made in (list, tuple):
            self.no(deep(made, 12))
            self.no([deep(made, 11)])
            self.no([(9, deep(made, 10))])
        self.no([(number, number) for number in range(1300)])
        self.no(list(range(3999)))
        hall = Hall([("held", 0)])
        self.assertIs(shows_never(hall, (0,), 0, 4000, [(number,) for number in range(1999)]), True)
        self.assertIs(shows_never(hall, (0,), 0, 1998, [(number,) for number in range(1999)]), False)

    def test_one_person(self):
        hall = Hall([("sum", 2, ((0, 9),))])
        self.assertIs(shows_never(hall, (11,), 0, 20, [(2,), (11,)]), True)
        self.assertIs(shows_never(hall, (11,), 0, 2, [(2,), (11,)]), False)
        self.assertIs(shows_never(hall, (11,), 0, 11, [(2,), (11,)]), False)
        self.assertIs(shows_never(hall, (11,), 0, 20, [(11,)]), False)
        self.assertIs(shows_never(hall, (2,), 0, 11, [(2,)]), True)

    def test_come_to_is_such_a_list(self):
        for chance, hall, standing in small_halls(1011, 80, 4):
            told = come_to(hall, standing)
            for person in range(len(hall)):
                shown = {one[person] for one in told}
                for number in range(12):
                    self.assertIs(shows_never(hall, standing, person, number, told), number not in shown)
            at = chance.randrange(len(told))
            self.assertIs(shows_never(hall, standing, 0, FAR, told[:at] + told[at + 1:]), False)

    def test_any_list_of_standings(self):
        for chance, hall, standing in small_halls(1012, 200, 2):
            grid = itertools.product(range(5), repeat=len(hall))
            thing = [one for one in grid if chance.random() < 0.9]
            shut = all(naive_turned(hall, one, [person]) in thing for one in thing for person in range(len(hall)))
            for number in (0, 4, 5):
                wanted = shut and standing in thing and number not in {one[0] for one in thing}
                self.assertIs(shows_never(hall, standing, 0, number, thing), wanted)

    def test_never_refused(self):
        hall, standing = JUST
        told = come_to(hall, standing)
        self.assertIs(shows_never(hall, standing, 2, FAR, told), True)
        self.assertIs(shows_never(hall, standing, 2, 12, told), False)
        wide = Hall([("held", 0)] * 12)
        many = [tuple(index >> bit & 1 for bit in range(11, -1, -1)) for index in range(4096)]
        self.assertIs(shows_never(wide, (1,) * 12, 3, 2, many), True)
        self.assertIs(shows_never(wide, (1,) * 12, 3, 1, many), False)
        self.assertIs(shows_never(row_of(60), (0,) * 60, 59, 1, [(0,) * 60]), True)

    def test_names_and_the_thing_stays(self):
        thing = [(9, 8), [1, [2]]]
        before = copy.deepcopy(thing)
        self.assertIs(shows_never(hall=PAIR, standing=(9, 8), person=0, number=3, thing=thing), False)
        self.assertEqual(thing, before)
        thing = list(WAYS)
        self.assertIs(shows_never(hall=PAIR, standing=(9, 8), person=0, number=3, thing=thing), True)
        self.assertEqual(thing, WAYS)


if __name__ == "__main__":
    unittest.main()
