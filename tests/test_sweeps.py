"""[11], with (d) of [1], [2] and [3]: sweeps.py."""

import itertools
import unittest

from lesserhall.errors import HasRound, TooMany
from lesserhall.halls import Hall
from lesserhall.levels import rests_of
from lesserhall.sweeps import rests_on, stops_of, swept
from lesserhall.webs import seen_first
from tests.helper import naive_is_rest, naive_rests, naive_seen, naive_told, row_of, small_halls, some_halls, some_webs
from tests.test_webs import ROUNDS

FAR = 10 ** 6
HELDS = [("held", 0), ("held", 1), ("held", 2), ("held", 3)]


def naive_told_of_others(hall, standing, person, bound):
    """What a person's rule tells of those others it sees who show less than the bound."""
    rule = hall.rules()[person]
    lot = [(other, standing[other]) for other in sorted(naive_seen(rule) - {person}) if standing[other] < bound]
    return naive_told(rule, lot)


def seeing_helds(*firsts):
    """Four who are held at 0, 1, 2, 3, and others who see the first so many of them: they have one stop more."""
    return Hall(HELDS + [("sum", 0, tuple((other, 1) for other in range(first))) for first in firsts])


class StopsOfTest(unittest.TestCase):
    def test_a_row(self):
        self.assertEqual([stops_of(row_of(3), (0, 1, 2), person) for person in range(3)], [[0], [0, 1], [0, 1, 2]])
        self.assertEqual(stops_of(row_of(3), (0, 0, 9), 2), [0, 2])
        self.assertEqual(stops_of(row_of(3), (9, 9, 9), 2), [0])

    def test_nobody_seen(self):
        self.assertEqual(stops_of(Hall([("held", FAR)]), (0,), 0), [FAR])
        self.assertEqual(stops_of(Hall([("sum", 5, ())]), (0,), 0), [5])
        self.assertEqual(stops_of(Hall([("next", ())]), (FAR,), 0), [0])

    def test_itself_aside(self):
        self.assertEqual(stops_of(Hall([("sum", 2, ((0, 9),))]), (0,), 0), [2])
        hall = Hall([("sum", 0, ((0, 4), (1, 3))), ("held", 1)])
        for shown in (0, 1, 2, 3, 7, FAR):
            self.assertEqual(stops_of(hall, (shown, 1), 0), [0, 3])
        hall = Hall([("next", (0, 1)), ("held", 1)])
        for shown in (0, 1, 2, 3, FAR):
            self.assertEqual(stops_of(hall, (shown, 1), 0), [0, 2])

    def test_far_up(self):
        hall = Hall([("held", FAR), ("next", (0,)), ("sum", 0, ((0, 99), (1, 99))), ("cap", 9, ((0, 99),), FAR + 5)])
        self.assertEqual(stops_of(hall, (FAR, FAR + 1, 0, 0), 1), [0, FAR + 1])
        self.assertEqual(stops_of(hall, (FAR, FAR + 1, 0, 0), 2), [0])
        self.assertEqual(stops_of(hall, (98, 197, 0, 0), 2), [0, 99, 198])
        self.assertEqual(stops_of(hall, (98, 198, 0, 0), 2), [0, 99])
        self.assertEqual(stops_of(hall, (FAR, FAR, FAR, FAR), 3), [9])

    def test_each_word(self):
        hall = Hall(HELDS + [("kinds", 0, (0, 1, 3)), ("free", (0, 1, 3)), ("cap", 0, ((0, 1), (1, 1), (2, 1)), 2),
                             ("next", (1, 3))])
        standing = (0, 1, 2, 3, 50, 50, 50, 50)
        self.assertEqual([stops_of(hall, standing, person) for person in range(4, 8)],
                         [[0, 1, 2], [0, 1, 2], [0, 1, 2], [0, 2, 4]])

    def test_all_numbers_tried(self):
        for _, hall, standing in small_halls(1111, 400, 6):
            for person in range(len(hall)):
                wanted = [number for number in range(30)
                          if naive_told_of_others(hall, standing, person, number) == number]
                self.assertEqual(stops_of(hall, standing, person), wanted)

    def test_at_least_one_and_each_is_one(self):
        for _, hall, standing in itertools.chain(some_halls(1112, 100), some_webs(1113, 100)):
            for person in range(len(hall)):
                told = stops_of(hall, standing, person)
                self.assertTrue(told)
                self.assertEqual(told, sorted(set(told)))
                for number in told:
                    self.assertEqual(naive_told_of_others(hall, standing, person, number), number)

    def test_of_any_hall(self):
        hall = Hall([("sum", 0, ((1, 5),)), ("sum", 0, ((0, 7),))])
        self.assertEqual(stops_of(hall, (9, 3), 0), [0, 5])
        self.assertEqual(stops_of(hall, (9, 5), 0), [0])
        for rounds in ROUNDS:
            self.assertEqual(stops_of(rounds, (5,) * len(rounds), 0), [0])

    def test_names_and_the_askers_own(self):
        told = stops_of(hall=row_of(3), standing=(0, 0, 9), person=2)
        self.assertIs(type(told), list)
        told.clear()
        self.assertEqual(stops_of(row_of(3), (0, 0, 9), 2), [0, 2])


class SweptTest(unittest.TestCase):
    def test_a_row(self):
        self.assertEqual(swept(row_of(3), (5, 5, 5)), (0, 1, 2))
        self.assertEqual(swept(row_of(3), (FAR, 0, 1)), (0, 0, 2))
        self.assertEqual(swept(row_of(1), (FAR,)), (0,))

    def test_a_stop_at_what_is_shown_above_and_below_it(self):
        hall = Hall([("held", 2), ("sum", 1, ((0, 5),)), ("held", 4)])
        # The stops of person 1 are 1 and 6: at 2 a turn tells 1, at 3 it tells 6.
        wanted = {0: 1, 1: 1, 2: 1, 3: 6, 4: 6, 5: 6, 6: 6, 7: 6, FAR: 6}
        for shown, stop in wanted.items():
            self.assertEqual(swept(hall, (2, shown, 4)), (2, stop, 4))

    def test_several_stops_above_and_below(self):
        hall = Hall([("held", 2), ("held", 5), ("held", 9), ("sum", 0, ((0, 4), (1, 4), (2, 9)))])
        # The stops are 0, 4, 8 and 17.
        for shown, stop in ((0, 0), (1, 0), (2, 0), (3, 4), (4, 4), (5, 4), (6, 8), (7, 8), (8, 8), (9, 8), (10, 17),
                            (16, 17), (17, 17), (18, 17), (FAR, 17)):
            self.assertEqual(swept(hall, (2, 5, 9, shown)), (2, 5, 9, stop))

    def test_behind_whom_it_sees(self):
        hall = Hall([("sum", 0, ((1, 5),)), ("held", 3)])
        self.assertEqual(swept(hall, (4, 7)), (5, 3))
        self.assertEqual(swept(hall, (3, 0)), (0, 3))

    def test_who_sees_itself(self):
        self.assertEqual(swept(Hall([("sum", 2, ((0, 9),))]), (11,)), (2,))
        self.assertEqual(swept(Hall([("next", (0, 1)), ("held", 1)]), (5, 0)), (2, 1))

    def test_by_turns_of_its_own_again_and_again(self):
        for _, hall, standing in some_webs(1114, 300):
            here = list(standing)
            for person in seen_first(hall):
                told = naive_told_of_others(hall, here, person, here[person])
                while told != here[person]:
                    here[person] = told
                    told = naive_told_of_others(hall, here, person, here[person])
            self.assertEqual(swept(hall, standing), tuple(here))
            self.assertTrue(naive_is_rest(hall, tuple(here)))

    def test_a_rest_stays(self):
        for rest in rests_on(row_of(5)):
            self.assertEqual(swept(row_of(5), rest), rest)

    def test_refused(self):
        for hall in ROUNDS:
            self.assertRaises(HasRound, swept, hall, (0,) * len(hall))

    def test_names_kinds_and_sixty(self):
        told = swept(hall=row_of(60), standing=(FAR,) * 60)
        self.assertEqual(told, tuple(range(60)))
        self.assertIs(type(told), tuple)


class RestsOnTest(unittest.TestCase):
    def test_one_rest(self):
        self.assertEqual(rests_on(Hall([("held", FAR)])), [(FAR,)])
        self.assertEqual(rests_on(Hall([("sum", 2, ((0, 9),))])), [(2,)])
        self.assertEqual(rests_on(Hall([("held", FAR)] * 12)), [(FAR,) * 12])

    def test_rows(self):
        self.assertEqual(rests_on(row_of(3)), [(0, 0, 0), (0, 0, 2), (0, 1, 0), (0, 1, 1), (0, 1, 2)])
        self.assertEqual([len(rests_on(row_of(many))) for many in range(1, 9)], [1, 2, 5, 14, 42, 132, 429, 1430])

    def test_far_up(self):
        hall = Hall([("next", (1,)), ("next", (2,)), ("held", FAR)])
        self.assertEqual(rests_on(hall), [(0, 0, FAR), (0, FAR + 1, FAR), (1, 0, FAR), (FAR + 2, FAR + 1, FAR)])

    def test_all_orders_tried(self):
        for _, hall, _ in some_webs(1115, 100, 5):
            self.assertEqual(rests_on(hall), naive_rests(hall))

    def test_as_rests_of_tells_them(self):
        for _, hall, _ in some_webs(1116, 100, 8):
            self.assertEqual(rests_on(hall), rests_of(hall))

    def test_just_two_thousand(self):
        told = rests_on(seeing_helds(4, 4, 4, 3, 3))
        wanted = itertools.product([0], [1], [2], [3], *[range(many) for many in (5, 5, 5, 4, 4)])
        self.assertEqual(told, list(wanted))
        self.assertEqual(len(told), 2000)

    def test_one_more(self):
        hall = Hall([("free", ()), ("free", (0,)), ("next", (1,)), ("free", (0, 1)), ("kinds", 0, (0, 1, 2)),
                     ("kinds", 0, (0, 1, 3)), ("free", (0, 1, 2, 3, 4, 5)),
                     ("sum", 0, ((0, 1), (2, 1), (3, 1), (5, 1), (6, 1))),
                     ("sum", 0, tuple((other, 1) for other in range(8)))])
        # The last person has so many stops, all told: 2,001.
        ahead = rests_on(Hall(hall.rules()[:8]))
        self.assertEqual(sum(len(stops_of(hall, one + (0,), 8)) for one in ahead), 2001)
        with self.assertRaises(TooMany) as caught:
            rests_on(hall)
        self.assertEqual(caught.exception.many, 2000)

    def test_too_many(self):
        for hall in (row_of(9), row_of(12), row_of(60), seeing_helds(4, 4, 4, 4, 4), seeing_helds(4, 4, 4, 3, 3, 1)):
            with self.assertRaises(TooMany) as caught:
                rests_on(hall)
            self.assertEqual(caught.exception.many, 2000)

    def test_a_round_goes_ahead_of_too_many(self):
        for hall in ROUNDS:
            self.assertRaises(HasRound, rests_on, hall)
        rules = list(row_of(11).rules())
        self.assertRaises(HasRound, rests_on, Hall(rules[:10] + [("next", (11,)), ("next", (10,))]))

    def test_name_and_the_askers_own(self):
        told = rests_on(hall=row_of(2))
        self.assertIs(type(told), list)
        self.assertEqual({type(rest) for rest in told}, {tuple})
        told.clear()
        self.assertEqual(rests_on(row_of(2)), [(0, 0), (0, 1)])


if __name__ == "__main__":
    unittest.main()
