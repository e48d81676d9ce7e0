"""[6], with [2] and [3]: turns.py."""

import unittest

from lesserhall.halls import Hall
from lesserhall.turns import is_rest, lot_of, restless, turned
from tests.helper import naive_turned, row_of, some_halls

# Of each word one; 0 sees itself, 4 nobody.
MIXED = Hall([
    ("sum", 1, ((0, 50), (1, 10), (2, 20))),
    ("cap", 2, ((0, 3), (2, 3), (4, 3)), 7),
    ("kinds", 5, (0, 1, 3, 4)),
    ("next", (1, 2, 5)),
    ("held", 4),
    ("free", (0, 1, 2, 4)),
])


class LotOfTest(unittest.TestCase):
    def test_those_who_show_less(self):
        standing = (5, 4, 5, 6, 10 ** 6, 0)
        self.assertEqual(lot_of(MIXED, standing, 0), [(1, 4)])
        self.assertEqual(lot_of(MIXED, standing, 1), [])
        self.assertEqual(lot_of(MIXED, standing, 2), [(1, 4)])
        self.assertEqual(lot_of(MIXED, standing, 3), [(1, 4), (2, 5), (5, 0)])
        self.assertEqual(lot_of(MIXED, standing, 4), [])
        self.assertEqual(lot_of(MIXED, standing, 5), [])

    def test_never_itself_nor_who_shows_the_same(self):
        hall = Hall([("sum", 0, ((0, 1), (1, 1)))] * 2)
        self.assertEqual(lot_of(hall, (3, 3), 0), [])
        self.assertEqual(lot_of(hall, (4, 3), 0), [(1, 3)])
        self.assertEqual(lot_of(Hall([("free", (0,))]), (10 ** 6,), 0), [])

    def test_names_and_the_askers_own(self):
        standing = (0, 1, 2, 10 ** 6, 4, 5)
        told = lot_of(hall=MIXED, standing=standing, person=3)
        self.assertEqual(told, [(1, 1), (2, 2), (5, 5)])
        self.assertIs(type(told), list)
        again = lot_of(MIXED, standing, 3)
        told.clear()
        self.assertEqual(again, [(1, 1), (2, 2), (5, 5)])
        self.assertEqual(lot_of(MIXED, standing, 3), again)
        self.assertEqual(MIXED.sees(3), [1, 2, 5])


class TurnedTest(unittest.TestCase):
    def test_a_turn_by_each_word(self):
        standing = (9, 9, 9, 9, 9, 9)
        self.assertEqual(turned(MIXED, standing, [0]), (1, 9, 9, 9, 9, 9))
        self.assertEqual(turned(MIXED, standing, [1]), (9, 2, 9, 9, 9, 9))
        self.assertEqual(turned(MIXED, standing, [2]), (9, 9, 5, 9, 9, 9))
        self.assertEqual(turned(MIXED, standing, [3]), (9, 9, 9, 0, 9, 9))
        self.assertEqual(turned(MIXED, standing, [4]), (9, 9, 9, 9, 4, 9))
        self.assertEqual(turned(MIXED, standing, [5]), (9, 9, 9, 9, 9, 0))
        self.assertEqual(turned(MIXED, (9, 8, 7, 9, 9, 9), [0]), (31, 8, 7, 9, 9, 9))
        self.assertEqual(turned(MIXED, (1, 8, 1, 9, 1, 9), [1]), (1, 7, 1, 9, 1, 9))
        self.assertEqual(turned(MIXED, (1, 1, 8, 2, 1, 9), [2]), (1, 1, 7, 2, 1, 9))
        self.assertEqual(turned(MIXED, (1, 6, 10 ** 6, 8, 1, 2), [3]), (1, 6, 10 ** 6, 7, 1, 2))
        self.assertEqual(turned(MIXED, (0, 1, 3, 8, 1, 9), [5]), (0, 1, 3, 8, 1, 2))

    def test_at_once(self):
        hall = Hall([("sum", 0, ((1, 5),)), ("sum", 0, ((0, 7),))])
        self.assertEqual(turned(hall, (9, 8), [0, 1]), (5, 0))
        self.assertEqual(turned(hall, (9, 8), [1, 0]), (5, 0))
        self.assertEqual(turned(hall, turned(hall, (9, 8), [0]), [1]), (5, 7))
        self.assertEqual(turned(hall, turned(hall, (9, 8), [1]), [0]), (5, 0))

    def test_twice_in_the_list_has_one_turn(self):
        hall = Hall([("sum", 0, ((1, 5),)), ("sum", 3, ())])
        # Two turns of person 0 would lead to 0.
        self.assertEqual(turned(hall, (9, 8), [0, 0]), (5, 8))
        self.assertEqual(turned(hall, (9, 8), [0, 1, 0]), (5, 3))

    def test_bare(self):
        self.assertEqual(turned(MIXED, (1, 2, 3, 4, 5, 6), []), (1, 2, 3, 4, 5, 6))
        self.assertEqual(turned(MIXED, (1, 2, 3, 4, 5, 6), ()), (1, 2, 3, 4, 5, 6))

    def test_names_a_tuple_for_the_list_and_no_change(self):
        standing, persons = (9, 8, 7, 6, 5, 4), [5, 0, 5, 3]
        told = turned(hall=MIXED, standing=standing, persons=persons)
        self.assertEqual(told, turned(MIXED, standing, tuple(persons)))
        self.assertIs(type(told), tuple)
        self.assertEqual((standing, persons), ((9, 8, 7, 6, 5, 4), [5, 0, 5, 3]))
        self.assertEqual(MIXED, Hall(MIXED.rules()))

    def test_as_the_document_says(self):
        for chance, hall, standing in some_halls(61, 300):
            persons = [chance.randrange(len(hall)) for _ in range(chance.randint(0, 15))]
            self.assertEqual(turned(hall, standing, persons), naive_turned(hall, standing, persons))


class RestTest(unittest.TestCase):
    def test_restless(self):
        hall = row_of(3)
        self.assertEqual(restless(hall, (0, 1, 2)), [])
        self.assertEqual(restless(hall, (0, 0, 0)), [])
        self.assertEqual(restless(hall, (1, 1, 1)), [0, 1, 2])
        self.assertEqual(restless(hall, (0, 2, 2)), [1, 2])
        self.assertEqual(restless(hall, (0, 10 ** 6, 1)), [1])

    def test_is_rest(self):
        hall = row_of(3)
        rests = [(one, two, three) for one in range(4) for two in range(4) for three in range(4)
                 if is_rest(hall, (one, two, three))]
        self.assertEqual(rests, [(0, 0, 0), (0, 0, 2), (0, 1, 0), (0, 1, 1), (0, 1, 2)])
        self.assertIs(is_rest(hall, (0, 1, 2)), True)
        self.assertIs(is_rest(hall, (0, 1, 3)), False)

    def test_one_person(self):
        self.assertIs(is_rest(Hall([("held", 10 ** 6)]), (10 ** 6,)), True)
        self.assertEqual(restless(Hall([("held", 10 ** 6)]), (0,)), [0])
        # Who sees itself shows no less than itself.
        self.assertIs(is_rest(Hall([("sum", 2, ((0, 9),))]), (2,)), True)
        self.assertEqual(restless(Hall([("sum", 2, ((0, 9),))]), (11,)), [0])

    def test_names_and_the_askers_own(self):
        told = restless(hall=row_of(3), standing=(1, 1, 1))
        self.assertIs(type(told), list)
        told.append(5)
        self.assertEqual(restless(row_of(3), (1, 1, 1)), [0, 1, 2])
        self.assertIs(is_rest(hall=row_of(3), standing=(1, 1, 1)), False)

    def test_as_the_document_says(self):
        for _, hall, standing in some_halls(62, 300):
            changed = [person for person in range(len(hall)) if naive_turned(hall, standing, [person]) != standing]
            self.assertEqual(restless(hall, standing), changed)
            self.assertIs(is_rest(hall, standing), changed == [])


if __name__ == "__main__":
    unittest.main()
