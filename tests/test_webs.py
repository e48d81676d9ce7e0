"""[11], with (d) of [1], [2] and [3]: webs.py."""

import copy
import itertools
import unittest

from lesserhall.beats import history
from lesserhall.errors import HasRound
from lesserhall.halls import Hall
from lesserhall.webs import late_of, round_in, seen_first, shows_round
from tests.helper import ODD, deep, naive_seen, row_of, small_halls, some_halls, some_webs


def seeing(*seen):
    """The hall in which each sees these."""
    return Hall([("free", tuple(sorted(persons))) for persons in seen])


def naive_has_round(hall):
    """Whether somebody sees itself by way of other ones."""
    reach = [naive_seen(rule) - {person} for person, rule in enumerate(hall.rules())]
    for _ in range(len(reach)):
        reach = [one.union(*(reach[other] for other in one)) for one in reach]
    return any(person in one for person, one in enumerate(reach))


def naive_is_round(hall, thing):
    """Whether a list of persons is a round."""
    if len(thing) < 2 or len(set(thing)) < len(thing):
        return False
    return all(thing[(at + 1) % len(thing)] in naive_seen(hall.rules()[person]) for at, person in enumerate(thing))


def naive_late(hall, person):
    """The late number of a person."""
    others = naive_seen(hall.rules()[person]) - {person}
    if not others:
        return 1
    return max(naive_late(hall, other) for other in others) + len(others) + 1


RING = [[1], [2], [3], [0]]
NO_ROUND = [seeing([]), seeing([0]), seeing([0], [0, 1]), seeing([1, 2], [2], []), seeing([0, 1], [1], [0, 1, 2]),
            row_of(12), row_of(60), Hall([("held", 10 ** 6)]), Hall([("sum", 0, ((0, 99),))])]
ROUNDS = [seeing([1], [0]), seeing([0, 1], [0, 1]), seeing(*RING), seeing([], [2], [3], [1], []),
          seeing([1], [0], [3], [2], [4]), seeing(*[range(12)] * 12), seeing(*[[(at + 1) % 12] for at in range(12)]),
          seeing([5], [0], [1], [2], [3], [4]), seeing([], [0, 2], [1])]


class RoundInTest(unittest.TestCase):
    def test_none(self):
        for hall in NO_ROUND:
            self.assertIsNone(round_in(hall))

    def test_one(self):
        for hall in ROUNDS:
            told = round_in(hall)
            self.assertIs(type(told), list)
            self.assertTrue(naive_is_round(hall, told))

    def test_of_two_and_of_all(self):
        self.assertEqual(sorted(round_in(seeing([1], [0]))), [0, 1])
        self.assertEqual(sorted(round_in(seeing(*[[(at + 1) % 12] for at in range(12)]))), list(range(12)))

    def test_wherever_there_is_one(self):
        found = 0
        for _, hall, _ in itertools.chain(some_halls(1101, 200), small_halls(1102, 300, 4), some_webs(1103, 100)):
            told = round_in(hall)
            self.assertEqual(told is not None, naive_has_round(hall))
            if told is not None:
                found += 1
                self.assertTrue(naive_is_round(hall, told))
                self.assertIs(shows_round(hall, told), True)
        self.assertGreater(found, 100)

    def test_name_and_the_askers_own(self):
        told = round_in(hall=ROUNDS[0])
        told.clear()
        self.assertEqual(sorted(round_in(ROUNDS[0])), [0, 1])


class ShowsRoundTest(unittest.TestCase):
    def no(self, hall, thing):
        self.assertIs(shows_round(hall, thing), False, thing)

    def test_rounds(self):
        hall = seeing(*RING)
        for thing in ([0, 1, 2, 3], [1, 2, 3, 0], [3, 0, 1, 2]):
            self.assertIs(shows_round(hall, thing), True)
        both = seeing([1, 2], [0], [0, 1])
        for thing in ([0, 1], [1, 0], [0, 2], [0, 2, 1]):
            self.assertIs(shows_round(both, thing), True)

    def test_not_each_sees_the_next(self):
        hall = seeing(*RING)
        for thing in ([3, 2, 1, 0], [0, 1], [0, 1, 2], [0, 2], [1, 2, 3], [0, 1, 3, 2]):
            self.no(hall, thing)
        # Just the last one doesn't see the first.
        self.no(seeing([1], [2], []), [0, 1, 2])
        self.no(seeing([1], []), [0, 1])

    def test_two_at_least_and_unlike(self):
        hall = seeing([0, 1], [0, 1])
        self.assertIs(shows_round(hall, [0, 1]), True)
        for thing in ([], [0], [1], [0, 0], [1, 1], [0, 1, 0], [0, 1, 0, 1], [0, 0, 1], [0, 1, 1]):
            self.no(hall, thing)
        self.no(seeing([0]), [0])
        self.no(seeing([0]), [0, 0])

    def test_tuples_and_persons_that_are_not_there(self):
        hall = seeing([0, 1], [0, 1])
        for thing in ((0, 1), ((0, 1),), [(0, 1)], [[0, 1]], [0, 2], [2, 0], [0, -1], [-2, -1], [0, -2], [0, 10 ** 6],
                      [0, True], [False, 1], [False, True], [0, "1"], "01", [0, [1]], [0, (1,)], [0, None], [0, 1.0]):
            self.no(hall, thing)

    def test_things_of_any_make(self):
        hall = seeing([0, 1], [0, 1])
        for odd in (*ODD, 2, deep(list, 12), deep(tuple, 12)):
            for thing in (odd, [odd], [odd, odd], [0, odd], [odd, 1], [0, 1, odd], [0, odd, 1]):
                self.no(hall, thing)
        self.no(hall, [0, 1] * 1999)
        self.no(hall, list(range(3999)))

    def test_all_lists_tried(self):
        for _, hall, _ in small_halls(1104, 60, 4):
            for many in range(5):
                for persons in itertools.product(range(len(hall)), repeat=many):
                    self.assertIs(shows_round(hall, list(persons)), naive_is_round(hall, persons))

    def test_names_and_the_thing_stays(self):
        thing = [0, [1, (2,)]]
        before = copy.deepcopy(thing)
        self.assertIs(shows_round(hall=ROUNDS[0], thing=thing), False)
        self.assertEqual(thing, before)
        thing = [1, 0]
        self.assertIs(shows_round(hall=ROUNDS[0], thing=thing), True)
        self.assertEqual(thing, [1, 0])


class SeenFirstTest(unittest.TestCase):
    def test_each_behind_all_others_whom_it_sees(self):
        self.assertEqual(seen_first(seeing([1, 2], [2], [])), [2, 1, 0])
        self.assertEqual(seen_first(seeing([3], [], [1], [])), [1, 2, 3, 0])
        self.assertEqual(seen_first(seeing([], [4], [], [], [2])), [0, 2, 3, 4, 1])
        self.assertEqual(seen_first(row_of(60)), list(range(60)))

    def test_next_always_the_least_that_can_be(self):
        # Person 1 can be as soon as 4 is there: then ahead of 5.
        self.assertEqual(seen_first(seeing([4], [4], [5], [], [3], [])), [3, 4, 0, 1, 5, 2])

    def test_one_person_and_who_sees_itself(self):
        self.assertEqual(seen_first(seeing([])), [0])
        self.assertEqual(seen_first(seeing([0])), [0])
        self.assertEqual(seen_first(seeing([0, 1], [1])), [1, 0])

    def test_the_first_of_all_such_lists(self):
        for _, hall, _ in some_webs(1105, 80, 5):
            for order in itertools.permutations(range(len(hall))):
                if all(naive_seen(hall.rules()[person]) <= set(order[:at + 1]) for at, person in enumerate(order)):
                    self.assertEqual(seen_first(hall), list(order))
                    break

    def test_refused(self):
        for hall in ROUNDS:
            self.assertRaises(HasRound, seen_first, hall)

    def test_refused_just_where_there_is_a_round(self):
        for _, hall, _ in small_halls(1106, 300, 4):
            for ask in (seen_first, late_of):
                if naive_has_round(hall):
                    self.assertRaises(HasRound, ask, hall)
                else:
                    ask(hall)

    def test_name_and_the_askers_own(self):
        told = seen_first(hall=row_of(2))
        self.assertIs(type(told), list)
        told.clear()
        self.assertEqual(seen_first(row_of(2)), [0, 1])


class LateOfTest(unittest.TestCase):
    def test_who_sees_no_other(self):
        self.assertEqual(late_of(seeing([])), (1,))
        self.assertEqual(late_of(seeing([0])), (1,))
        self.assertEqual(late_of(seeing([], [1], [])), (1, 1, 1))

    def test_any_other(self):
        self.assertEqual(late_of(seeing([1], [])), (3, 1))
        self.assertEqual(late_of(seeing([0, 1], [1])), (3, 1))
        self.assertEqual(late_of(seeing([1, 2], [2], [])), (6, 3, 1))
        self.assertEqual(late_of(seeing([1, 2, 3], [], [], [])), (5, 1, 1, 1))
        self.assertEqual(late_of(row_of(5)), (1, 3, 6, 10, 15))
        self.assertEqual(late_of(row_of(60))[-1], 60 * 61 // 2)

    def test_as_the_document_says(self):
        for _, hall, _ in some_webs(1107, 200, 8):
            self.assertEqual(late_of(hall), tuple(naive_late(hall, person) for person in range(len(hall))))

    def test_each_rests_by_then(self):
        for _, hall, standing in some_webs(1108, 200):
            late = late_of(hall)
            told = history(hall, standing, max(late) + 3)
            for person in range(len(hall)):
                self.assertEqual(len({one[person] for one in told[late[person]:]}), 1)

    def test_refused(self):
        for hall in ROUNDS:
            self.assertRaises(HasRound, late_of, hall)

    def test_name_and_kind(self):
        self.assertIs(type(late_of(hall=row_of(2))), tuple)


if __name__ == "__main__":
    unittest.main()
