"""[7], with (a) of [1], [2] and [3]: beats.py."""

import unittest

from lesserhall.beats import history, rest_by_beats
from lesserhall.halls import Hall
from lesserhall.turns import is_rest
from tests.helper import naive_turned, row_of, some_halls


class HistoryTest(unittest.TestCase):
    def test_a_row(self):
        self.assertEqual(history(row_of(3), (2, 1, 3), 3), [(2, 1, 3), (0, 0, 2), (0, 0, 2), (0, 0, 2)])
        self.assertEqual(history(row_of(3), (1, 1, 1), 2), [(1, 1, 1), (0, 0, 0), (0, 0, 0)])

    def test_no_beats(self):
        self.assertEqual(history(row_of(3), (9, 9, 9), 0), [(9, 9, 9)])

    def test_four_hundred_beats(self):
        for hall in (Hall([("held", 7)]), row_of(12), row_of(60)):
            many = len(hall)
            told = history(hall, (10 ** 6,) * many, 400)
            self.assertEqual(len(told), 401)
            self.assertEqual(told[0], (10 ** 6,) * many)
            self.assertEqual(told[400], told[399])
            self.assertTrue(is_rest(hall, told[400]))

    def test_all_at_once(self):
        hall = Hall([("sum", 0, ((1, 5),)), ("sum", 0, ((0, 7),))])
        self.assertEqual(history(hall, (9, 8), 3), [(9, 8), (5, 0), (5, 0), (5, 0)])

    def test_as_the_document_says(self):
        for _, hall, standing in some_halls(71, 200):
            told = history(hall, standing, 5)
            self.assertEqual(len(told), 6)
            self.assertEqual(told[0], standing)
            for one, other in zip(told, told[1:]):
                self.assertEqual(other, naive_turned(hall, one, range(len(hall))))

    def test_names_and_the_askers_own(self):
        told = history(hall=row_of(3), standing=(2, 1, 3), many=1)
        self.assertEqual(told, [(2, 1, 3), (0, 0, 2)])
        self.assertIs(type(told), list)
        self.assertEqual({type(standing) for standing in told}, {tuple})
        told[0] = None
        self.assertEqual(history(row_of(3), (2, 1, 3), 1), [(2, 1, 3), (0, 0, 2)])


class RestByBeatsTest(unittest.TestCase):
    def test_a_row(self):
        self.assertEqual(rest_by_beats(row_of(3), (2, 1, 3)), ((0, 0, 2), 1))
        self.assertEqual(rest_by_beats(row_of(1), (10 ** 6,)), ((0,), 1))

    def test_more_than_one_beat(self):
        hall = Hall([("held", 1), ("sum", 0, ((0, 4),)), ("sum", 0, ((1, 9),)), ("next", (2,))])
        # (0, 2, 5, 6) -> (1, 4, 9, 6) -> (1, 4, 9, 0)
        self.assertEqual(rest_by_beats(hall, (0, 2, 5, 6)), ((1, 4, 9, 0), 2))

    def test_of_a_rest_itself_and_0(self):
        for rest in ((0, 0, 0), (0, 0, 2), (0, 1, 0), (0, 1, 1), (0, 1, 2)):
            self.assertEqual(rest_by_beats(row_of(3), rest), (rest, 0))

    def test_it_is_there_behind_so_many_at_least(self):
        for _, hall, standing in some_halls(72, 300):
            rest, beats = rest_by_beats(hall, standing)
            told = history(hall, standing, beats)
            self.assertEqual(told[-1], rest)
            self.assertEqual(naive_turned(hall, rest, range(len(hall))), rest)
            self.assertNotIn(rest, told[:-1])

    def test_names_and_kinds(self):
        told = rest_by_beats(hall=row_of(2), standing=(5, 5))
        self.assertEqual(told, ((0, 0), 1))
        self.assertIs(type(told), tuple)
        self.assertIs(type(told[0]), tuple)


if __name__ == "__main__":
    unittest.main()
