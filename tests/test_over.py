"""[15], with (a), (g) of [1], [2] and [3]: over.py."""

import itertools
import random
import unittest

from lesserhall.beats import history, rest_by_beats
from lesserhall.errors import NoPerson, NoSum, NotSums
from lesserhall.firm import firm_of, waterline
from lesserhall.halls import Hall
from lesserhall.levels import rests_of
from lesserhall.lines import line_hall
from lesserhall.over import beside, called, held_at, scaled, tied
from lesserhall.orders import rest_by
from lesserhall.rows import row_hall
from tests.helper import naive_come_to, naive_turned, side_by_side, small_halls, some_halls

EACH = [("held", 5), ("sum", 3, ((0, 2), (1, 99))), ("cap", 1, ((2, 4), (5, 1)), 6), ("kinds", 2, (0, 3)),
        ("next", (1, 4)), ("free", (0, 5))]
SUMS = Hall(EACH[:2] + [("cap", 1, ((1, 4), (2, 1)), 6)])


def sums_of(hall):
    """The hall with sums in the place of kinds, next and free."""
    rules = [rule if rule[0] in ("held", "sum", "cap") else ("sum", 1, tuple((person, 2) for person in rule[-1]))
             for rule in hall.rules()]
    return Hall(rules)


def renamed_rules(hall, order):
    """The rules of a hall called otherwise, straight from the words of the document."""
    rules = []
    for person in order:
        rule = hall.rules()[person]
        if rule[0] in ("sum", "cap"):
            ties = tuple(sorted((order.index(other), weight) for other, weight in rule[2]))
            rules.append(rule[:2] + (ties,) + rule[3:])
        elif rule[0] == "held":
            rules.append(rule)
        else:
            rules.append(rule[:-1] + (tuple(sorted(order.index(other) for other in rule[-1])),))
    return tuple(rules)


class ScaledTest(unittest.TestCase):
    def test_rules(self):
        self.assertEqual(scaled(SUMS, 3).rules(), (("held", 15), ("sum", 9, ((0, 6), (1, 297))),
                                                   ("cap", 3, ((1, 12), (2, 3)), 18)))
        self.assertEqual(scaled(Hall([("held", 0), ("sum", 0, ()), ("cap", 0, (), 0)]), 99).rules(),
                         (("held", 0), ("sum", 0, ()), ("cap", 0, (), 0)))

    def test_once(self):
        self.assertEqual(scaled(SUMS, 1), SUMS)
        for _, hall, _ in some_halls(1501, 40):
            self.assertEqual(scaled(sums_of(hall), 1), sums_of(hall))

    def test_told_again(self):
        self.assertEqual(scaled(scaled(SUMS, 99), 99), scaled(SUMS, 99 * 99))
        hall = SUMS
        for _ in range(50):
            hall = scaled(hall, 99)
        self.assertEqual(hall.rule(0), ("held", 5 * 99 ** 50))
        self.assertEqual(scaled(row_hall(60), 99).rule(59), ("sum", 0, tuple((other, 99) for other in range(59))))

    def test_not_sums(self):
        for word in (("kinds", 0, ()), ("next", ()), ("free", ()), ("kinds", 3, (0,)), ("next", (0,)), ("free", (0,))):
            for times in (1, 2, 99):
                for rules, person in (([word], 0), ([("held", 1), word], 1), ([word, ("sum", 0, ()), word], 0),
                                      ([("sum", 0, ()), ("cap", 0, (), 1), word, ("next", ())], 2)):
                    with self.assertRaises(NotSums) as caught:
                        scaled(Hall(rules), times)
                    self.assertEqual(caught.exception.person, person)
        with self.assertRaises(NotSums) as caught:
            scaled(Hall(EACH), 2)
        self.assertEqual(caught.exception.person, 3)

    def test_goes_as_it_did(self):
        for chance, hall, standing in itertools.chain(some_halls(1502, 60), small_halls(1503, 60, 4)):
            hall = sums_of(hall)
            times = chance.choice((1, 2, 7, 99))
            wider = scaled(hall, times)

            def great(one):
                return tuple(times * shown for shown in one)
            self.assertEqual([great(one) for one in history(hall, standing, 8)], history(wider, great(standing), 8))
            rest, beats = rest_by_beats(hall, standing)
            self.assertEqual(rest_by_beats(wider, great(standing)), (great(rest), beats))
            self.assertEqual(firm_of(wider, great(standing)), firm_of(hall, standing))
            if len(hall) <= 4:
                self.assertEqual(rests_of(wider), [great(one) for one in rests_of(hall)])

    def test_names_and_kinds(self):
        told = scaled(hall=SUMS, times=2)
        self.assertIs(type(told), Hall)
        self.assertEqual(told.rule(0), ("held", 10))
        self.assertEqual(SUMS.rule(0), ("held", 5))


class CalledTest(unittest.TestCase):
    def test_rules(self):
        hall = Hall([("held", 5), ("sum", 3, ((0, 2), (2, 9))), ("free", (0, 1, 2))])
        self.assertEqual(called(hall, [2, 0, 1]).rules(),
                         (("free", (0, 1, 2)), ("held", 5), ("sum", 3, ((0, 9), (1, 2)))))
        self.assertEqual(called(hall, [1, 0, 2]).rules(),
                         (("sum", 3, ((1, 2), (2, 9))), ("held", 5), ("free", (0, 1, 2))))

    def test_as_the_document_says(self):
        for chance, hall, standing in some_halls(1511, 80):
            order = chance.sample(range(len(hall)), len(hall))
            self.assertEqual(called(hall, order).rules(), renamed_rules(hall, order))
        for order in itertools.permutations(range(6)):
            self.assertEqual(called(Hall(EACH), order).rules(), renamed_rules(Hall(EACH), order))

    def test_an_order_that_leaves_all_as_it_was(self):
        for _, hall, _ in some_halls(1512, 40):
            self.assertEqual(called(hall, list(range(len(hall)))), hall)
        self.assertEqual(called(row_hall(60), list(range(60))), row_hall(60))
        self.assertEqual(called(Hall([("free", (0,))]), [0]), Hall([("free", (0,))]))

    def test_a_ring_led_round(self):
        ring = line_hall(60, ring=True)
        self.assertEqual(called(ring, list(range(7, 60)) + list(range(7))), ring)
        self.assertNotEqual(called(ring, list(range(60))[::-1]), ring)

    def test_and_back(self):
        for chance, hall, _ in some_halls(1513, 40):
            order = chance.sample(range(len(hall)), len(hall))
            back = [order.index(person) for person in range(len(hall))]
            self.assertEqual(called(called(hall, order), back), hall)

    def test_goes_as_it_did(self):
        for chance, hall, standing in itertools.chain(some_halls(1514, 60), small_halls(1515, 60, 4)):
            order = chance.sample(range(len(hall)), len(hall))
            other = called(hall, order)

            def led(one):
                return tuple(one[person] for person in order)
            self.assertEqual(history(other, led(standing), 8), [led(one) for one in history(hall, standing, 8)])
            rest, turns = rest_by(hall, standing, order)
            self.assertEqual(rest_by(other, led(standing), list(range(len(hall)))),
                             (led(rest), [order.index(person) for person in turns]))
            self.assertEqual(waterline(other, led(standing)), waterline(hall, standing))
            if len(hall) <= 4:
                self.assertEqual(rests_of(other), sorted(led(one) for one in rests_of(hall)))

    def test_names_tuples_and_what_is_handed_in_stays(self):
        order = [2, 0, 1]
        told = called(hall=SUMS, order=order)
        self.assertIs(type(told), Hall)
        self.assertEqual(order, [2, 0, 1])
        self.assertEqual(called(SUMS, (2, 0, 1)), told)
        order.reverse()
        self.assertEqual(told.rules(), renamed_rules(SUMS, [2, 0, 1]))


class BesideTest(unittest.TestCase):
    def test_rules(self):
        one = Hall([("sum", 0, ((0, 3), (1, 2))), ("held", 4)])
        other = Hall([("cap", 1, ((0, 5),), 9), ("kinds", 0, (1, 2)), ("next", (0,))])
        self.assertEqual(beside(one, other).rules(), (
            ("sum", 0, ((0, 3), (1, 2))), ("held", 4), ("cap", 1, ((2, 5),), 9), ("kinds", 0, (3, 4)), ("next", (2,))))
        self.assertEqual(beside(other, one).rules()[3:], (("sum", 0, ((3, 3), (4, 2))), ("held", 4)))

    def test_who_see_themselves(self):
        alone = [Hall([("free", (0,))]), Hall([("sum", 1, ((0, 99),))]), Hall([("next", (0,))])]
        self.assertEqual(beside(alone[0], alone[1]).rules(), (("free", (0,)), ("sum", 1, ((1, 99),))))
        self.assertEqual(beside(alone[2], alone[2]).rules(), (("next", (0,)), ("next", (1,))))

    def test_as_the_document_says(self):
        halls = [hall for _, hall, _ in some_halls(1521, 40)]
        for one, other in zip(halls, halls[1:]):
            self.assertEqual(beside(one, other).rules(), tuple(side_by_side(one.rules(), other.rules())))

    def test_told_again(self):
        hall = line_hall(60, ring=True)
        twice = beside(hall, hall)
        self.assertEqual((len(twice), twice.sees(59), twice.sees(119)), (120, [0], [60]))
        self.assertEqual(beside(twice, SUMS).rule(121), ("sum", 3, ((120, 2), (121, 99))))
        self.assertEqual(beside(beside(SUMS, hall), SUMS), beside(SUMS, beside(hall, SUMS)))

    def test_go_as_they_did(self):
        halls = [(hall, standing) for _, hall, standing in itertools.chain(some_halls(1522, 40),
                                                                           small_halls(1523, 40, 2))]
        for (one, first), (other, second) in zip(halls, halls[1:]):
            both = beside(one, other)
            self.assertEqual(history(both, first + second, 8),
                             [a + b for a, b in zip(history(one, first, 8), history(other, second, 8))])
            (rest, beats), (along, longer) = rest_by_beats(one, first), rest_by_beats(other, second)
            self.assertEqual(rest_by_beats(both, first + second), (rest + along, max(beats, longer)))
            if len(both) <= 4:
                self.assertEqual(rests_of(both), [a + b for a in rests_of(one) for b in rests_of(other)])

    def test_names_and_kinds(self):
        told = beside(one=SUMS, other=row_hall(2))
        self.assertIs(type(told), Hall)
        self.assertEqual(len(told), 5)


class HeldAtTest(unittest.TestCase):
    def test_each_word(self):
        for person in range(6):
            for number in (0, 7, 10 ** 6):
                rules = list(EACH)
                rules[person] = ("held", number)
                self.assertEqual(held_at(Hall(EACH), person, number), Hall(rules))

    def test_no_person(self):
        for person in (-1, -6, -7, 6, 7, 10 ** 40, -10 ** 40):
            with self.assertRaises(NoPerson) as caught:
                held_at(Hall(EACH), person, 3)
            self.assertEqual(caught.exception.person, person)

    def test_who_never_changes_may_as_well_be_held(self):
        found = 0
        for _, hall, standing in small_halls(1531, 150, 4):
            ways = naive_come_to(hall, standing)
            for person in range(len(hall)):
                if len({one[person] for one in ways}) == 1:
                    found += 1
                    other = held_at(hall, person, standing[person])
                    self.assertEqual(naive_come_to(other, standing), ways)
                    self.assertEqual(history(other, standing, 6), history(hall, standing, 6))
        self.assertGreater(found, 50)

    def test_all_come_to_rest(self):
        for chance, hall, standing in some_halls(1532, 60):
            person = chance.randrange(len(hall))
            other = held_at(hall, person, chance.randint(0, 10 ** 6))
            rest = rest_by_beats(other, standing)[0]
            self.assertEqual(naive_turned(other, rest, range(len(hall))), rest)

    def test_names_and_the_hall_stays(self):
        hall = Hall(EACH)
        told = held_at(hall=hall, person=1, number=8)
        self.assertIs(type(told), Hall)
        self.assertEqual(told.rule(1), ("held", 8))
        self.assertEqual(hall, Hall(EACH))


class TiedTest(unittest.TestCase):
    def test_weights(self):
        hall = Hall(EACH)
        self.assertEqual(tied(hall, 1, 0, 7).rule(1), ("sum", 3, ((0, 7), (1, 99))))
        self.assertEqual(tied(hall, 1, 4, 7).rule(1), ("sum", 3, ((0, 2), (1, 99), (4, 7))))
        self.assertEqual(tied(hall, 2, 0, 1).rule(2), ("cap", 1, ((0, 1), (2, 4), (5, 1)), 6))
        self.assertEqual(tied(hall, 2, 3, 99).rule(2), ("cap", 1, ((2, 4), (3, 99), (5, 1)), 6))

    def test_itself(self):
        hall = Hall(EACH)
        self.assertEqual(tied(hall, 1, 1, 5).rule(1), ("sum", 3, ((0, 2), (1, 5))))
        self.assertEqual(tied(hall, 1, 1, 0).rule(1), ("sum", 3, ((0, 2),)))
        self.assertEqual(tied(hall, 2, 2, 0).rule(2), ("cap", 1, ((5, 1),), 6))
        self.assertEqual(tied(Hall([("sum", 0, ())]), 0, 0, 1), Hall([("sum", 0, ((0, 1),))]))

    def test_none(self):
        hall = Hall(EACH)
        self.assertEqual(tied(hall, 1, 0, 0).rule(1), ("sum", 3, ((1, 99),)))
        self.assertEqual(tied(hall, 1, 5, 0), hall)
        self.assertEqual(tied(hall, 2, 0, 0), hall)
        self.assertEqual(tied(tied(hall, 2, 2, 0), 2, 5, 0).rule(2), ("cap", 1, (), 6))
        self.assertEqual(tied(Hall([("sum", 0, ())]), 0, 0, 0), Hall([("sum", 0, ())]))

    def test_all_others_stay(self):
        hall = Hall(EACH)
        for person, other in itertools.product((1, 2), range(6)):
            for weight in (0, 1, 99):
                told = tied(hall, person, other, weight)
                self.assertEqual([told.rule(one) for one in range(6) if one != person],
                                 [hall.rule(one) for one in range(6) if one != person])
                ties = dict(hall.rule(person)[2])
                ties.pop(other, None)
                if weight:
                    ties[other] = weight
                self.assertEqual(told.rule(person)[2], tuple(sorted(ties.items())))
        self.assertEqual(hall, Hall(EACH))

    def test_no_sum(self):
        for person in (0, 3, 4, 5):
            for other, weight in itertools.product(range(6), (0, 1)):
                with self.assertRaises(NoSum) as caught:
                    tied(Hall(EACH), person, other, weight)
                self.assertEqual(caught.exception.person, person)

    def test_no_person_ahead(self):
        far = 10 ** 40
        for person, other, first in ((-1, 0, -1), (6, 0, 6), (1, -1, -1), (1, 6, 6), (2, -6, -6), (-2, -3, -2), (7, 8, 7),
                                     (8, 7, 8), (-1, 9, -1), (9, -1, 9), (0, 6, 6), (3, -1, -1), (4, 6, 6), (5, 9, 9),
                                     (far, -far, far), (0, far, far)):
            for weight in (0, 1):
                with self.assertRaises(NoPerson) as caught:
                    tied(Hall(EACH), person, other, weight)
                self.assertEqual(caught.exception.person, first)

    def test_told_again(self):
        hall = row_hall(60)
        told = tied(hall, 59, 0, 0)
        self.assertEqual(told.sees(59), list(range(1, 59)))
        self.assertEqual(tied(told, 59, 0, 1), hall)

    def test_all_come_to_rest(self):
        chance = random.Random(1541)
        for _, hall, standing in some_halls(1542, 60):
            hall = sums_of(hall)
            persons = [person for person, rule in enumerate(hall.rules()) if rule[0] != "held"]
            if persons:
                other = tied(hall, chance.choice(persons), chance.randrange(len(hall)), chance.choice((0, 1, 99)))
                rest = rest_by_beats(other, standing)[0]
                self.assertEqual(naive_turned(other, rest, range(len(hall))), rest)

    def test_names_and_kinds(self):
        told = tied(hall=Hall(EACH), person=1, other=2, weight=3)
        self.assertIs(type(told), Hall)
        self.assertEqual(told.sees(1), [0, 1, 2])


if __name__ == "__main__":
    unittest.main()
