"""[10], with (f) of [1], [2] and [3]: ways.py."""

import itertools
import unittest

from lesserhall.errors import TooMany
from lesserhall.halls import Hall
from lesserhall.orders import rest_by
from lesserhall.turns import turned
from lesserhall.ways import come_to, least_turns, most_shown, rests_come_to
from tests.helper import naive_come_to, naive_is_rest, naive_turned, row_of, small_halls, some_halls

FAR = 10 ** 6
PAIR = Hall([("sum", 0, ((1, 5),)), ("sum", 0, ((0, 7),))])
# Single turns come to just 3,000 standings, and to one more.
JUST = (
    Hall([("held", 3), ("free", (5,)), ("sum", 0, ((0, 2), (1, 9), (2, 2), (3, 8), (4, 6), (5, 3))),
          ("cap", 3, ((0, 1), (2, 1), (5, 5)), 12), ("sum", 0, ((0, 7), (1, 2), (3, 4), (4, 9))),
          ("free", (0, 2, 3, 4, 5))]),
    (16, 30, 12, 10, 30, 21),
)
ONE_MORE = (
    Hall([("kinds", 6, (1, 2, 3, 4, 5)), ("held", 1), ("cap", 0, ((0, 2), (1, 4), (2, 7), (3, 1), (4, 8), (5, 6)), 30),
          ("next", (0, 1, 2, 3, 4, 5)), ("sum", 0, ((1, 4), (3, 2), (5, 2))), ("kinds", 0, (0, 3))]),
    (1, 13, 16, 10, 11, 16),
)


def naive_least(hall, standing, other, most):
    """The first of the shortest lists of turns, of at most so many: each list is tried."""
    for many in range(most + 1):
        for turns in itertools.product(range(len(hall)), repeat=many):
            here = standing
            for person in turns:
                here = naive_turned(hall, here, [person])
            if here == other:
                return list(turns)
    return None


def led(hall, standing, turns):
    """Where turns one by one lead."""
    for person in turns:
        standing = turned(hall, standing, [person])
    return standing


class ComeToTest(unittest.TestCase):
    def test_two_persons(self):
        self.assertEqual(come_to(PAIR, (9, 8)), [(0, 7), (0, 8), (5, 0), (5, 7), (5, 8), (9, 0), (9, 8)])

    def test_of_a_rest_itself_alone(self):
        for rest in ((0, 0), (0, 7), (5, 0)):
            self.assertEqual(come_to(PAIR, rest), [rest])
        self.assertEqual(come_to(Hall([("held", FAR)]), (FAR,)), [(FAR,)])

    def test_one_person(self):
        self.assertEqual(come_to(Hall([("held", 3)]), (FAR,)), [(3,), (FAR,)])
        self.assertEqual(come_to(Hall([("sum", 2, ((0, 9),))]), (11,)), [(2,), (11,)])

    def test_single_turns_alone(self):
        # Turns had at once would lead to (0, 1), too.
        hall = Hall([("sum", 0, ((1, 5),)), ("sum", 1, ((0, 5),))])
        self.assertEqual(come_to(hall, (3, 3)), [(0, 3), (0, 6), (3, 1), (3, 3), (5, 1)])

    def test_as_the_document_says(self):
        for _, hall, standing in small_halls(1001, 150, 4):
            self.assertEqual(come_to(hall, standing), sorted(naive_come_to(hall, standing)))
        for _, hall, standing in some_halls(1002, 40, 5):
            wanted = naive_come_to(hall, standing)
            if len(wanted) <= 3000:
                self.assertEqual(come_to(hall, standing), sorted(wanted))

    def test_just_three_thousand(self):
        hall, standing = JUST
        self.assertEqual(len(naive_come_to(hall, standing)), 3000)
        told = come_to(hall, standing)
        self.assertEqual(told, sorted(naive_come_to(hall, standing)))
        self.assertIn(standing, told)

    def test_names_kinds_and_the_askers_own(self):
        told = come_to(hall=PAIR, standing=(5, 8))
        self.assertEqual(told, [(0, 7), (0, 8), (5, 7), (5, 8)])
        self.assertIs(type(told), list)
        self.assertEqual({type(one) for one in told}, {tuple})
        told.clear()
        self.assertEqual(come_to(PAIR, (5, 8)), [(0, 7), (0, 8), (5, 7), (5, 8)])


class RestsComeToTest(unittest.TestCase):
    def test_two_persons(self):
        self.assertEqual(rests_come_to(PAIR, (9, 8)), [(0, 7), (5, 0)])
        self.assertEqual(rests_come_to(PAIR, (5, 7)), [(0, 7)])
        self.assertEqual(rests_come_to(PAIR, (0, 7)), [(0, 7)])

    def test_as_the_document_says(self):
        for _, hall, standing in small_halls(1003, 150, 4):
            wanted = sorted(one for one in naive_come_to(hall, standing) if naive_is_rest(hall, one))
            self.assertEqual(rests_come_to(hall, standing), wanted)
            self.assertIn(rest_by(hall, standing, list(range(len(hall))))[0], wanted)

    def test_just_three_thousand(self):
        hall, standing = JUST
        wanted = sorted(one for one in naive_come_to(hall, standing) if naive_is_rest(hall, one))
        self.assertEqual(rests_come_to(hall, standing), wanted)

    def test_names_and_the_askers_own(self):
        told = rests_come_to(hall=PAIR, standing=(9, 8))
        self.assertIs(type(told), list)
        told.clear()
        self.assertEqual(rests_come_to(PAIR, (9, 8)), [(0, 7), (5, 0)])


class LeastTurnsTest(unittest.TestCase):
    def test_two_persons(self):
        self.assertEqual(least_turns(PAIR, (9, 8), (0, 7)), [0, 0, 1])
        self.assertEqual(least_turns(PAIR, (9, 8), (5, 0)), [1, 0])
        self.assertEqual(least_turns(PAIR, (9, 8), (5, 7)), [0, 1])

    def test_of_itself(self):
        self.assertEqual(least_turns(PAIR, (9, 8), (9, 8)), [])
        self.assertEqual(least_turns(PAIR, (0, 7), (0, 7)), [])
        self.assertEqual(least_turns(Hall([("held", 3)]), (3,), (3,)), [])

    def test_of_what_cannot_be_come_to(self):
        self.assertIsNone(least_turns(PAIR, (9, 8), (9, 9)))
        self.assertIsNone(least_turns(PAIR, (0, 7), (5, 0)))
        self.assertIsNone(least_turns(PAIR, (0, 0), (0, 7)))
        self.assertIsNone(least_turns(Hall([("held", 3)]), (4,), (FAR,)))

    def test_the_first_of_the_shortest(self):
        hall = Hall([("held", 1), ("held", 2), ("held", 3)])
        self.assertEqual(least_turns(hall, (9, 9, 9), (1, 2, 3)), [0, 1, 2])
        self.assertEqual(least_turns(hall, (9, 9, 9), (1, 9, 3)), [0, 2])
        # A shorter one goes ahead of one that rises first.
        hall = Hall([("sum", 4, ((1, 5),)), ("held", 3)])
        self.assertEqual(led(hall, (9, 10), [0, 1, 0]), (9, 3))
        self.assertEqual(least_turns(hall, (9, 10), (9, 3)), [1])

    def test_each_list_tried(self):
        for chance, hall, standing in small_halls(1004, 60, 3):
            others = sorted(naive_come_to(hall, standing))
            for other in chance.sample(others, min(6, len(others))):
                told = least_turns(hall, standing, other)
                self.assertEqual(led(hall, standing, told), other)
                self.assertEqual(told, naive_least(hall, standing, other, len(told)))

    def test_all_that_can_be_come_to_and_no_other(self):
        for _, hall, standing in small_halls(1005, 60, 4):
            told = come_to(hall, standing)
            for other in told:
                self.assertEqual(led(hall, standing, least_turns(hall, standing, other)), other)
            for other in (tuple(shown + 50 for shown in standing), (77,) * len(hall)):
                self.assertIsNone(least_turns(hall, standing, other))

    def test_names_and_the_askers_own(self):
        told = least_turns(hall=PAIR, standing=(9, 8), other=(0, 7))
        self.assertIs(type(told), list)
        told.append(5)
        self.assertEqual(least_turns(PAIR, (9, 8), (0, 7)), [0, 0, 1])
        least_turns(PAIR, (9, 8), (9, 8)).append(5)
        self.assertEqual(least_turns(PAIR, (9, 8), (9, 8)), [])


class MostShownTest(unittest.TestCase):
    def test_two_persons(self):
        self.assertEqual([most_shown(PAIR, (9, 8), person) for person in (0, 1)], [9, 8])
        self.assertEqual([most_shown(PAIR, (4, 3), person) for person in (0, 1)], [5, 3])
        self.assertEqual([most_shown(PAIR, (3, 4), person) for person in (0, 1)], [3, 7])
        self.assertEqual([most_shown(PAIR, (0, 0), person) for person in (0, 1)], [0, 0])

    def test_what_it_shows_now_too(self):
        self.assertEqual(most_shown(Hall([("held", 3)]), (FAR,), 0), FAR)
        self.assertEqual(most_shown(Hall([("held", FAR)]), (3,), 0), FAR)
        self.assertEqual(most_shown(Hall([("held", FAR), ("next", (0,))]), (0, FAR + 5), 1), FAR + 5)
        self.assertEqual(most_shown(Hall([("held", FAR), ("next", (0,))]), (0, FAR), 1), FAR)
        self.assertEqual(most_shown(Hall([("held", FAR), ("next", (0,))]), (FAR, FAR + 5), 1), FAR + 5)

    def test_as_the_document_says(self):
        for _, hall, standing in small_halls(1006, 100, 4):
            found = naive_come_to(hall, standing)
            for person in range(len(hall)):
                self.assertEqual(most_shown(hall, standing, person), max(one[person] for one in found))

    def test_names(self):
        self.assertEqual(most_shown(hall=PAIR, standing=(3, 4), person=1), 7)


class TooManyTest(unittest.TestCase):
    def asks(self, hall, standing):
        near = turned(hall, standing, [0])
        return ((come_to, (hall, standing)), (rests_come_to, (hall, standing)), (most_shown, (hall, standing, 0)),
                (least_turns, (hall, standing, standing)), (least_turns, (hall, standing, near)),
                (least_turns, (hall, standing, (FAR,) * len(hall))))

    def test_one_more_than_three_thousand(self):
        hall, standing = ONE_MORE
        self.assertEqual(len(naive_come_to(hall, standing)), 3001)
        for ask, handed in self.asks(hall, standing):
            with self.assertRaises(TooMany) as caught:
                ask(*handed)
            self.assertEqual(caught.exception.many, 3000)

    def test_many_more(self):
        hall = Hall([("sum", person, tuple((other, 7 + person + 2 * other) for other in range(6)))
                     for person in range(6)])
        for ask, handed in self.asks(hall, (99, 98, 97, 96, 95, 94)):
            with self.assertRaises(TooMany) as caught:
                ask(*handed)
            self.assertEqual(caught.exception.many, 3000)

    def test_none_of_just_three_thousand(self):
        for ask, handed in self.asks(*JUST):
            ask(*handed)


class RowTest(unittest.TestCase):
    def test_a_row_of_six(self):
        standing = (0, 0, 2, 0, 4, 4)
        self.assertEqual(come_to(row_of(6), standing), sorted(naive_come_to(row_of(6), standing)))


if __name__ == "__main__":
    unittest.main()
