"""[13], with (a), (b), (d) of [1], [2] and [3]: lines.py."""

import inspect
import itertools
import random
import unittest

from lesserhall.beats import rest_by_beats
from lesserhall.errors import HasRound, NoRest
from lesserhall.halls import Hall
from lesserhall.levels import plain_rest, rests_of
from lesserhall.lines import all_counts, all_hall, line_counts, line_hall, line_number, line_rest
from lesserhall.orders import rest_by
from lesserhall.sweeps import rests_on, swept
from lesserhall.turns import is_rest
from lesserhall.webs import late_of, shows_round
from tests.helper import naive_is_rest, naive_rests, naive_turned

# How many rests: of a line, each the two ahead of it together; of a ring likewise, from 1 and 3 on.
LINES = [1, 2, 3, 5, 8, 13, 21, 34, 55, 89]
RINGS = [1, 3, 4, 7, 11, 18, 29, 47, 76, 123]
ALL = [1, 3, 13, 75, 541, 4683, 47293, 545835, 7087261, 102247563]


def naive_line(many, ring=False):
    """The hall of a line or ring, straight from the words of the document."""
    rules = [("sum", 0, ((person + 1, 1),)) for person in range(many)]
    rules[-1] = ("sum", 0, ((0, 1),)) if ring else ("sum", 0, ())
    return Hall(rules)


def naive_line_rests(many, ring):
    """All rests: nobody can show more than 1 in one."""
    return [shown for shown in itertools.product((0, 1), repeat=many) if naive_is_rest(naive_line(many, ring), shown)]


class LineHallTest(unittest.TestCase):
    def test_line(self):
        self.assertEqual(line_hall(1).rules(), (("sum", 0, ()),))
        self.assertEqual(line_hall(2).rules(), (("sum", 0, ((1, 1),)), ("sum", 0, ())))
        self.assertEqual(line_hall(3).rules(), (("sum", 0, ((1, 1),)), ("sum", 0, ((2, 1),)), ("sum", 0, ())))

    def test_ring(self):
        self.assertEqual(line_hall(1, ring=True).rules(), (("sum", 0, ((0, 1),)),))
        self.assertEqual(line_hall(2, ring=True).rules(), (("sum", 0, ((1, 1),)), ("sum", 0, ((0, 1),))))
        self.assertEqual(line_hall(3, ring=True).sees(2), [0])

    def test_all_sizes(self):
        for many in range(1, 61):
            self.assertEqual(line_hall(many), naive_line(many))
            self.assertEqual(line_hall(many, ring=False), naive_line(many))
            self.assertEqual(line_hall(many=many, ring=True), naive_line(many, True))
        self.assertIs(type(line_hall(4)), Hall)

    def test_rounds(self):
        self.assertEqual(late_of(line_hall(4)), (7, 5, 3, 1))
        self.assertEqual(late_of(line_hall(1, ring=True)), (1,))
        self.assertIs(shows_round(line_hall(60, ring=True), list(range(60))), True)
        self.assertRaises(HasRound, late_of, line_hall(2, ring=True))


class LineRestsTest(unittest.TestCase):
    def test_counts(self):
        self.assertEqual([line_counts(many) for many in range(1, 11)], LINES)
        self.assertEqual([line_counts(many, ring=True) for many in range(1, 11)], RINGS)
        self.assertEqual(line_counts(many=6, ring=False), 13)

    def test_sixty_counts(self):
        lines, rings = LINES[:2], RINGS[:2]
        while len(lines) < 60:
            lines.append(lines[-1] + lines[-2])
            rings.append(rings[-1] + rings[-2])
        self.assertEqual([line_counts(many) for many in range(1, 61)], lines)
        self.assertEqual([line_counts(many, ring=True) for many in range(1, 61)], rings)
        self.assertEqual((line_counts(60), line_counts(60, ring=True)), (2504730781961, 3461452808002))

    def test_are_all_rests(self):
        for many in range(1, 6):
            for ring in (False, True):
                self.assertEqual(naive_line_rests(many, ring), naive_rests(naive_line(many, ring)))
        for many in range(1, 9):
            self.assertEqual(rests_on(line_hall(many)), naive_line_rests(many, False))
            self.assertEqual(rests_of(line_hall(many, ring=True)), naive_line_rests(many, True))

    def test_each_by_its_number_and_back(self):
        for many in range(1, 10):
            for ring in (False, True):
                rests = naive_line_rests(many, ring)
                told = [line_rest(many, number, ring=ring) for number in range(line_counts(many, ring=ring))]
                self.assertEqual(told, rests)
                self.assertEqual([line_number(rest, ring=ring) for rest in rests], list(range(len(rests))))

    def test_one_and_two(self):
        self.assertEqual(line_rest(1, 0), (0,))
        self.assertEqual(line_rest(1, 0, ring=True), (0,))
        self.assertEqual([line_rest(2, number) for number in (0, 1)], [(0, 0), (1, 0)])
        self.assertEqual([line_rest(2, number, ring=True) for number in (0, 1, 2)], [(0, 0), (0, 1), (1, 0)])
        self.assertEqual(line_number((0,)), 0)
        self.assertEqual(line_number((0,), ring=True), 0)
        # The same standing has another number as a rest of a ring.
        self.assertEqual((line_number((1, 0)), line_number((1, 0), ring=True)), (1, 2))

    def test_sixty(self):
        chance = random.Random(1301)
        for ring in (False, True):
            hall, many = line_hall(60, ring=ring), line_counts(60, ring=ring)
            self.assertEqual(line_rest(60, 0, ring=ring), (0,) * 60)
            self.assertEqual(line_rest(60, many - 1, ring=ring), (1, 0) * 30)
            self.assertEqual(line_rest(60, 1, ring=ring), (0,) * 59 + (1,) if ring else (0,) * 58 + (1, 0))
            self.assertEqual(line_number((0,) * 60, ring=ring), 0)
            self.assertEqual(line_number((1, 0) * 30, ring=ring), many - 1)
            for _ in range(40):
                number = chance.randrange(many - 1)
                one, other = line_rest(60, number, ring=ring), line_rest(60, number + 1, ring=ring)
                self.assertLess(one, other)
                self.assertEqual(line_number(one, ring=ring), number)
                self.assertTrue(naive_is_rest(hall, one))

    def test_first_and_last(self):
        for many in (1, 2, 3, 12, 59):
            for ring in (False, True):
                last = line_counts(many, ring=ring) - 1
                self.assertEqual(line_rest(many, 0, ring=ring), (0,) * many)
                ends = tuple((1, 0) * many)[:many]
                if many % 2:
                    ends = ends[:-1] + (0,)
                self.assertEqual(line_rest(many, last, ring=ring), ends)

    def test_no_rest(self):
        for many in (1, 2, 3, 60):
            for ring in (False, True):
                beyond = line_counts(many, ring=ring)
                for number in (-1, -2, -beyond, -beyond - 1, -10 ** 40, beyond, beyond + 1, 10 ** 40, 10 ** 5000):
                    with self.assertRaises(NoRest) as caught:
                        line_rest(many, number, ring=ring)
                    self.assertEqual(caught.exception.number, number)

    def test_names_and_kinds(self):
        told = line_rest(many=4, number=2, ring=True)
        self.assertEqual(told, (0, 0, 1, 0))
        self.assertIs(type(told), tuple)
        self.assertEqual(line_number(rest=told, ring=True), 2)
        self.assertEqual(line_number(rest=told), 1)

    def test_ring_by_name_alone(self):
        for call in ((line_hall, 3), (line_counts, 3), (line_rest, 3, 0), (line_number, (0, 0))):
            function, *things = call
            function(*things)
            self.assertRaises(TypeError, function, *things, True)
            ring = inspect.signature(function).parameters["ring"]
            self.assertEqual((ring.kind, ring.default), (inspect.Parameter.KEYWORD_ONLY, False))

    def test_all_come_to_rest(self):
        chance = random.Random(1302)
        for many in (1, 2, 3, 7, 60):
            for ring in (False, True):
                hall = line_hall(many, ring=ring)
                standing = tuple(chance.randint(0, chance.choice((2, 10 ** 6))) for _ in range(many))
                for rest in (rest_by_beats(hall, standing)[0], rest_by(hall, standing, list(range(many)))[0],
                             plain_rest(hall)):
                    self.assertTrue(naive_is_rest(hall, rest))
                    self.assertEqual(line_rest(many, line_number(rest, ring=ring), ring=ring), rest)
                if not ring:
                    self.assertTrue(naive_is_rest(hall, swept(hall, standing)))


class AllTest(unittest.TestCase):
    def test_hall(self):
        self.assertEqual(all_hall(1).rules(), (("sum", 0, ()),))
        self.assertEqual(all_hall(2).rules(), (("sum", 0, ((1, 1),)), ("sum", 0, ((0, 1),))))
        for many in (3, 12, 60):
            hall = all_hall(many=many)
            self.assertEqual(len(hall), many)
            for person, rule in enumerate(hall.rules()):
                self.assertEqual(rule, ("sum", 0, tuple((other, 1) for other in range(many) if other != person)))
        self.assertIs(type(all_hall(2)), Hall)

    def test_counts(self):
        self.assertEqual([all_counts(many) for many in range(1, 11)], ALL)
        self.assertEqual(all_counts(many=3), 13)
        for many in range(1, 6):
            self.assertEqual(all_counts(many), len(naive_rests(all_hall(many))))
            self.assertEqual(all_counts(many), len(rests_of(all_hall(many))))

    def test_sixty_counts(self):
        # In how many ways so many persons stand on just so many levels: one more stands on any, or beside any, alone.
        ways = [1]
        for many in range(1, 61):
            ways = [level * (stood + alone) for level, (stood, alone) in enumerate(zip(ways + [0], [0] + ways))]
            self.assertEqual(all_counts(many), sum(ways))

    def test_rests_behind_one_beat(self):
        chance = random.Random(1303)
        for many in (1, 2, 3, 4, 12, 60):
            hall = all_hall(many)
            for _ in range(10):
                standing = tuple(chance.randint(0, chance.choice((1, many, 10 ** 6))) for _ in range(many))
                rest, beats = rest_by_beats(hall, standing)
                self.assertLessEqual(beats, 1)
                self.assertEqual(rest, naive_turned(hall, standing, range(many)))
                self.assertTrue(is_rest(hall, rest))


if __name__ == "__main__":
    unittest.main()
