"""[7], with (a) of [1], [2] and [3]: orders.py."""

import copy
import unittest

from lesserhall.beats import rest_by_beats
from lesserhall.halls import Hall
from lesserhall.orders import rest_by, rest_by_lots
from lesserhall.turns import is_rest
from tests.helper import naive_turned, row_of, some_halls

# Where they stand at (9, 8) the order counts.
TWO = Hall([("sum", 0, ((1, 5),)), ("sum", 0, ((0, 7),))])


def naive_run(hall, standing, lots):
    """The standing, the lots that changed something, and their count up to the last of them, lot by lot."""
    changed, last, had = [], 0, 0
    while any(naive_turned(hall, standing, [person]) != standing for person in range(len(hall))):
        lot = lots[had % len(lots)]
        had += 1
        behind = naive_turned(hall, standing, lot)
        if behind != standing:
            changed.append(lot)
            last = had
        standing = behind
    return standing, changed, last


class RestByTest(unittest.TestCase):
    def test_the_order_counts(self):
        self.assertEqual(rest_by(TWO, (9, 8), [0, 1]), ((0, 7), [0, 1, 0]))
        self.assertEqual(rest_by(TWO, (9, 8), [1, 0]), ((5, 0), [1, 0]))

    def test_somebody_more_than_once(self):
        self.assertEqual(rest_by(TWO, (9, 8), [0, 0, 1]), ((0, 7), [0, 0, 1]))
        self.assertEqual(rest_by(TWO, (9, 8), [0, 1, 0, 1, 1]), ((0, 7), [0, 1, 0]))

    def test_of_a_rest_itself_and_none(self):
        for rest in ((0, 0, 0), (0, 0, 2), (0, 1, 0), (0, 1, 1), (0, 1, 2)):
            self.assertEqual(rest_by(row_of(3), rest, [2, 0, 1]), (rest, []))

    def test_one_and_twelve_persons(self):
        self.assertEqual(rest_by(Hall([("sum", 3, ((0, 99),))]), (10 ** 6,), [0, 0]), ((3,), [0]))
        order = list(range(12))
        self.assertEqual(rest_by(row_of(12), (10 ** 6,) * 12, order), (tuple(order), order))
        rest, turns = rest_by(row_of(12), (10 ** 6,) * 12, order[::-1])
        self.assertEqual((rest, turns), ((0,) * 12, order[::-1]))

    def test_as_the_document_says(self):
        for chance, hall, standing in some_halls(73, 300):
            many = len(hall)
            order = list(range(many)) + [chance.randrange(many) for _ in range(chance.randint(0, 6))]
            chance.shuffle(order)
            rest, turns = rest_by(hall, standing, order)
            naive_rest, changed, _ = naive_run(hall, standing, [[person] for person in order])
            self.assertEqual(rest, naive_rest)
            self.assertEqual(turns, [person for [person] in changed])

    def test_names_a_tuple_for_the_list_and_no_change(self):
        order = [1, 0, 1]
        told = rest_by(hall=TWO, standing=(9, 8), order=order)
        self.assertEqual(told, rest_by(TWO, (9, 8), tuple(order)))
        self.assertEqual(order, [1, 0, 1])
        self.assertEqual((type(told), type(told[0]), type(told[1])), (tuple, tuple, list))
        told[1].append(4)
        self.assertEqual(rest_by(TWO, (9, 8), order), ((5, 0), [1, 0]))
        again, other = rest_by(TWO, (5, 0), order), rest_by(TWO, (5, 0), order)
        self.assertIsNot(again[1], other[1])


class RestByLotsTest(unittest.TestCase):
    def test_lots_at_once(self):
        self.assertEqual(rest_by_lots(TWO, (9, 8), [[0, 1]]), ((5, 0), 1))
        self.assertEqual(rest_by_lots(TWO, (9, 8), [[0], [1]]), ((0, 7), 3))
        self.assertEqual(rest_by_lots(TWO, (9, 8), [[1], [0]]), ((5, 0), 2))
        self.assertEqual(rest_by_lots(TWO, (9, 8), [[0], [1], [0]]), ((0, 7), 3))

    def test_bare_lots_count_up_to_the_last_that_changed(self):
        self.assertEqual(rest_by_lots(TWO, (9, 8), [[], [0], [], [1], []]), ((0, 7), 7))
        self.assertEqual(rest_by_lots(TWO, (9, 8), [[], [], [1, 0], []]), ((5, 0), 3))
        self.assertEqual(rest_by_lots(TWO, (9, 8), [[0, 1], [], [0]]), ((5, 0), 1))

    def test_lots_that_change_nothing_count_ahead_of_one_that_does(self):
        hall = Hall([("held", 4), ("held", 5)])
        self.assertEqual(rest_by_lots(hall, (4, 0), [[0], [0], [1], [0]]), ((4, 5), 3))

    def test_twice_in_a_lot_has_one_turn(self):
        self.assertEqual(rest_by_lots(TWO, (9, 8), [[0, 0], [1]]), ((0, 7), 3))
        self.assertEqual(rest_by_lots(TWO, (9, 8), [[0, 1, 0]]), ((5, 0), 1))

    def test_of_a_rest_itself_and_0(self):
        for rest in ((0, 0, 0), (0, 0, 2), (0, 1, 0), (0, 1, 1), (0, 1, 2)):
            self.assertEqual(rest_by_lots(row_of(3), rest, [[], [2, 0], [1]]), (rest, 0))

    def test_all_in_one_lot_are_beats(self):
        for _, hall, standing in some_halls(74, 200):
            lots = [list(range(len(hall)))]
            self.assertEqual(rest_by_lots(hall, standing, lots), rest_by_beats(hall, standing))

    def test_as_the_document_says(self):
        for chance, hall, standing in some_halls(75, 300):
            many = len(hall)
            lots = [[person] for person in range(many)]
            for _ in range(chance.randint(0, 5)):
                lots.append([chance.randrange(many) for _ in range(chance.randint(0, 4))])
            chance.shuffle(lots)
            naive_rest, _, last = naive_run(hall, standing, lots)
            self.assertEqual(rest_by_lots(hall, standing, lots), (naive_rest, last))

    def test_names_tuples_for_lists_and_no_change(self):
        lots = [[0], [], [1, 1]]
        before = copy.deepcopy(lots)
        told = rest_by_lots(hall=TWO, standing=(9, 8), lots=lots)
        self.assertEqual(told, ((0, 7), 4))
        self.assertEqual((type(told), type(told[0])), (tuple, tuple))
        self.assertEqual(lots, before)
        self.assertEqual(rest_by_lots(TWO, (9, 8), ((0,), (), (1, 1))), told)


class AllComeToRestTest(unittest.TestCase):
    """(a) of [1]: whatever the hall, the standing and the order, one by one or together."""

    def test_each_way_leads_to_a_rest(self):
        for chance, hall, standing in some_halls(76, 400):
            many = len(hall)
            order = chance.sample(range(many), many)
            lots = [order[:many // 2], order[many // 3:], []]
            for rest in (rest_by_beats(hall, standing)[0], rest_by(hall, standing, order)[0],
                         rest_by_lots(hall, standing, lots)[0]):
                self.assertTrue(is_rest(hall, rest))
                self.assertEqual(len(rest), many)

    def test_an_order_that_is_never_the_same(self):
        for chance, hall, standing in some_halls(77, 200):
            many = len(hall)
            for _ in range(500):
                if is_rest(hall, standing):
                    break
                for person in chance.sample(range(many), many):
                    standing = naive_turned(hall, standing, [person, chance.randrange(many)])
            self.assertTrue(is_rest(hall, standing))


if __name__ == "__main__":
    unittest.main()
