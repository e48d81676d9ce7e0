"""[13], with (a), (b), (d) of [1], [2] and [3]: windows.py."""

import itertools
import random
import unittest

from lesserhall.beats import rest_by_beats
from lesserhall.halls import Hall
from lesserhall.levels import rests_of
from lesserhall.lines import line_counts
from lesserhall.rows import row_counts, row_hall
from lesserhall.sweeps import rests_on, swept
from lesserhall.webs import late_of
from lesserhall.windows import window_counts, window_hall
from tests.helper import naive_is_rest, naive_rests


def naive_window_rests(many, wide):
    """All rests, person by person."""
    rests = [()]
    for _ in range(many):
        rests = [rest + (shown,) for rest in rests for shown in range(wide + 1)
                 if sum(other < shown for other in rest[-wide:]) == shown]
    return rests


class WindowHallTest(unittest.TestCase):
    def test_rules(self):
        self.assertEqual(window_hall(1, 1).rules(), (("sum", 0, ()),))
        self.assertEqual(window_hall(1, 6).rules(), (("sum", 0, ()),))
        self.assertEqual(window_hall(3, 1).rules(), (("sum", 0, ()), ("sum", 0, ((0, 1),)), ("sum", 0, ((1, 1),))))
        self.assertEqual(window_hall(4, 2).rules()[2:], (("sum", 0, ((0, 1), (1, 1))), ("sum", 0, ((1, 1), (2, 1)))))

    def test_all_sizes(self):
        for many, wide in itertools.product((1, 2, 5, 6, 7, 8, 59, 60), range(1, 7)):
            hall = window_hall(many=many, wide=wide)
            self.assertIs(type(hall), Hall)
            self.assertEqual(len(hall), many)
            for person, rule in enumerate(hall.rules()):
                seen = tuple((other, 1) for other in range(many) if person - wide <= other < person)
                self.assertEqual(rule, ("sum", 0, seen))

    def test_wider_than_there_are_persons(self):
        for many in range(1, 8):
            for wide in range(max(1, many - 1), 9):
                self.assertEqual(window_hall(many, wide), row_hall(many))

    def test_all_come_to_rest(self):
        chance = random.Random(1311)
        for many, wide in itertools.product((1, 2, 7, 60), (1, 2, 6)):
            hall = window_hall(many, wide)
            standing = tuple(chance.randint(0, chance.choice((3, 10 ** 6))) for _ in range(many))
            rest, beats = rest_by_beats(hall, standing)
            self.assertTrue(naive_is_rest(hall, rest))
            self.assertLessEqual(beats, max(late_of(hall)))
            self.assertEqual(swept(hall, standing)[-1], swept(hall, swept(hall, standing))[-1])
            self.assertTrue(naive_is_rest(hall, swept(hall, standing)))


class WindowCountsTest(unittest.TestCase):
    def test_small(self):
        self.assertEqual([window_counts(1, wide) for wide in range(1, 7)], [1] * 6)
        self.assertEqual([window_counts(2, wide) for wide in range(1, 7)], [2] * 6)
        self.assertEqual([window_counts(3, wide) for wide in range(1, 7)], [3] + [5] * 5)

    def test_all_rests(self):
        for many, wide in itertools.product(range(1, 8), range(1, 7)):
            rests = naive_window_rests(many, wide)
            self.assertEqual(window_counts(many=many, wide=wide), len(rests))
            self.assertEqual(rests_on(window_hall(many, wide)), sorted(rests))
        for many, wide in ((4, 1), (4, 2), (5, 2), (5, 3)):
            self.assertEqual(naive_rests(window_hall(many, wide)), sorted(naive_window_rests(many, wide)))
        self.assertEqual(window_counts(8, 3), len(rests_of(window_hall(8, 3))))

    def test_somewhat_greater(self):
        for many, wide in ((12, 1), (11, 2), (10, 3), (10, 5), (9, 6)):
            self.assertEqual(window_counts(many, wide), len(naive_window_rests(many, wide)))

    def test_wide_1_is_a_line_the_other_way(self):
        for many in (1, 2, 12, 60):
            self.assertEqual(window_counts(many, 1), line_counts(many))

    def test_wider_than_there_are_persons(self):
        for many in range(1, 8):
            for wide in range(max(1, many - 1), 7):
                self.assertEqual(window_counts(many, wide), row_counts(many))
        self.assertEqual((window_counts(9, 6), row_counts(9)), (4577, 4862))

    def test_sixty(self):
        self.assertEqual([window_counts(60, wide) for wide in range(1, 7)], [
            2504730781961, 5875477273546041955, 142640726249646832221477, 357924104138566580497455188,
            207521865680830424271082363645, 40944422645620563954118415992141])


if __name__ == "__main__":
    unittest.main()
