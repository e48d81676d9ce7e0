"""[9], with (c) of [1], [2] and [3]: firm.py."""

import copy
import unittest

from lesserhall.firm import firm_of, is_line, waterline
from lesserhall.halls import Hall
from lesserhall.levels import plain_rest
from lesserhall.turns import is_rest, turned
from tests.helper import ODD, deep, naive_is_rest, naive_told_below, row_of, small_halls, some_halls

FAR = 10 ** 6


def naive_is_line(hall, standing, number):
    """Whether a number is a line, straight from the words of the document."""
    for person, shown in enumerate(standing):
        if shown < number:
            if naive_told_below(hall, standing, person, shown) != shown:
                return False
        elif naive_told_below(hall, standing, person, number) < number:
            return False
    return True


def naive_firm(hall, standing):
    """The firm ones, straight from the words of the document, of a standing of small numbers."""
    if naive_is_rest(hall, standing):
        return list(range(len(standing)))
    line = max(number for number in range(max(standing) + 1) if naive_is_line(hall, standing, number))
    return [person for person, shown in enumerate(standing)
            if shown < line or (shown == line and naive_told_below(hall, standing, person, line) == line)]


class IsLineTest(unittest.TestCase):
    def test_a_row(self):
        hall = row_of(3)
        self.assertEqual([number for number in range(9) if is_line(hall, (0, 1, 4), number)], [0, 1, 2])
        self.assertEqual([number for number in range(9) if is_line(hall, (0, 5, 7), number)], [0, 1])
        self.assertEqual([number for number in range(9) if is_line(hall, (2, 5, 7), number)], [0])

    def test_a_line_above_one_that_is_none(self):
        hall = Hall([("held", 5), ("sum", 0, ((0, 10),)), ("sum", 0, ((1, 20),))])
        for standing, lines in (((5, 10, 9), [0]), ((5, 10, 15), [0, *range(11, 16)]),
                                ((5, 10, 25), [0, *range(11, 21)])):
            self.assertEqual([number for number in range(30) if is_line(hall, standing, number)], lines)

    def test_nought_is_one_always(self):
        for _, hall, standing in some_halls(901, 200):
            self.assertIs(is_line(hall, standing, 0), True)

    def test_above_all_that_are_shown_just_of_a_rest(self):
        for _, hall, standing in small_halls(902, 200, 5):
            for one in (standing, plain_rest(hall)):
                for number in (max(one) + 1, max(one) + 2, FAR, 10 ** 40):
                    self.assertIs(is_line(hall, one, number), naive_is_rest(hall, one))

    def test_one_person(self):
        self.assertEqual([n for n in range(9) if is_line(Hall([("held", 3)]), (5,), n)], [0, 1, 2, 3])
        self.assertEqual([n for n in range(9) if is_line(Hall([("held", 5)]), (3,), n)], [0, 1, 2, 3])
        self.assertEqual([n for n in range(9) if is_line(Hall([("held", 3)]), (3,), n)], list(range(9)))
        # Who sees itself isn't below a line that it's not below.
        self.assertEqual([n for n in range(9) if is_line(Hall([("sum", 2, ((0, 9),))]), (4,), n)], [0, 1, 2])
        self.assertEqual([n for n in range(9) if is_line(Hall([("sum", 2, ((0, 9),))]), (2,), n)], list(range(9)))

    def test_as_the_document_says(self):
        for _, hall, standing in small_halls(903, 300, 6):
            for number in range(max(standing) + 3):
                self.assertIs(is_line(hall, standing, number), naive_is_line(hall, standing, number))
        for _, hall, standing in some_halls(904, 200):
            for number in {*standing, *(shown + 1 for shown in standing), 5, 999}:
                self.assertIs(is_line(hall, standing, number), naive_is_line(hall, standing, number))

    def test_wrong_things(self):
        hall, rest = row_of(3), (0, 1, 2)
        self.assertIs(is_line(hall, rest, 1), True)
        for thing in (*ODD, [0], (0,), [1], (1,), "1", [(0, 1)], [0, 1, 2], (0, 1, 2), deep(list, 12), deep(tuple, 12),
                      list(range(3999)), -2, -FAR):
            self.assertIs(is_line(hall, rest, thing), False, thing)
            self.assertIs(is_line(hall, (3, 3, 3), thing), False, thing)

    def test_names_and_the_thing_stays(self):
        thing = [[1, (2, [3])], None]
        before = copy.deepcopy(thing)
        self.assertIs(is_line(hall=row_of(2), standing=(0, 1), thing=thing), False)
        self.assertEqual(thing, before)
        self.assertIs(is_line(hall=row_of(2), standing=(0, 1), thing=2), True)


class WaterlineTest(unittest.TestCase):
    def test_a_row(self):
        self.assertEqual(waterline(row_of(3), (0, 1, 4)), 2)
        self.assertEqual(waterline(row_of(3), (0, 5, 7)), 1)
        self.assertEqual(waterline(row_of(3), (2, 5, 7)), 0)

    def test_of_a_rest_none(self):
        for rest in ((0, 0, 0), (0, 0, 2), (0, 1, 0), (0, 1, 1), (0, 1, 2)):
            self.assertIsNone(waterline(row_of(3), rest))
        self.assertIsNone(waterline(Hall([("held", FAR)]), (FAR,)))

    def test_above_a_number_that_is_no_line(self):
        hall = Hall([("held", 5), ("sum", 0, ((0, 10),)), ("sum", 0, ((1, 20),))])
        self.assertEqual(waterline(hall, (5, 10, 25)), 20)
        self.assertEqual(waterline(hall, (5, 10, 15)), 15)
        self.assertEqual(waterline(hall, (5, 10, 9)), 0)

    def test_far_up(self):
        self.assertEqual(waterline(Hall([("held", FAR)]), (FAR - 1,)), FAR - 1)
        self.assertEqual(waterline(Hall([("held", FAR)]), (FAR + 9,)), FAR)
        self.assertEqual(waterline(Hall([("held", 0), ("held", FAR), ("held", FAR)]), (0, FAR, 2 * FAR)), FAR)
        self.assertEqual(waterline(Hall([("held", FAR - 7), ("next", (0, 1)), ("held", FAR)]), (FAR - 7, FAR, FAR)),
                         FAR - 6)
        self.assertEqual(waterline(Hall([("held", 10 ** 40), ("held", 10 ** 40)]), (10 ** 40, 10 ** 50)), 10 ** 40)

    def test_one_who_sees_itself(self):
        self.assertEqual(waterline(Hall([("sum", 2, ((0, 9),))]), (4,)), 2)
        self.assertEqual(waterline(Hall([("sum", 2, ((0, 9),))]), (1,)), 1)
        self.assertIsNone(waterline(Hall([("sum", 2, ((0, 9),))]), (2,)))

    def test_is_the_greatest_line(self):
        for _, hall, standing in small_halls(905, 400, 6):
            lines = [number for number in range(max(standing) + 1) if naive_is_line(hall, standing, number)]
            if naive_is_rest(hall, standing):
                self.assertIsNone(waterline(hall, standing))
            else:
                self.assertEqual(waterline(hall, standing), max(lines))

    def test_is_a_line_and_below_all_rest(self):
        for _, hall, standing in some_halls(906, 200):
            line = waterline(hall, standing)
            if line is None:
                self.assertTrue(is_rest(hall, standing))
                continue
            self.assertTrue(naive_is_line(hall, standing, line))
            for number in {line + 1, *standing, *(shown + 1 for shown in standing)}:
                self.assertFalse(number > line and naive_is_line(hall, standing, number))

    def test_names_and_great_rows(self):
        self.assertEqual(waterline(hall=row_of(3), standing=(0, 1, 4)), 2)
        self.assertEqual(waterline(row_of(60), (0,) + (FAR,) * 59), 1)
        self.assertIsNone(waterline(row_of(60), tuple(range(60))))


class FirmOfTest(unittest.TestCase):
    def test_below_the_waterline(self):
        self.assertEqual(firm_of(row_of(3), (0, 1, 4)), [0, 1])
        self.assertEqual(firm_of(row_of(3), (0, 5, 7)), [0])
        self.assertEqual(firm_of(row_of(3), (2, 5, 7)), [])

    def test_at_the_waterline(self):
        # The waterline is 2: person 2 shows just that, told so by those below; person 3 shows that as well, told 5.
        hall = Hall([("held", 0), ("held", 1), ("kinds", 0, (0, 1)), ("held", 5), ("held", 2)])
        self.assertEqual(waterline(hall, (0, 1, 2, 2, 7)), 2)
        self.assertEqual(firm_of(hall, (0, 1, 2, 2, 7)), [0, 1, 2])
        # Whose rule tells the waterline but who shows more is not firm.
        self.assertEqual(firm_of(hall, (0, 1, 2, 3, 7)), [0, 1, 2])
        self.assertEqual(firm_of(hall, (0, 1, 6, 6, 2)), [0, 1, 4])

    def test_of_a_rest_all(self):
        for rest in ((0, 0, 0), (0, 0, 2), (0, 1, 0), (0, 1, 1), (0, 1, 2)):
            self.assertEqual(firm_of(row_of(3), rest), [0, 1, 2])
        self.assertEqual(firm_of(Hall([("held", FAR)]), (FAR,)), [0])

    def test_one_person(self):
        self.assertEqual(firm_of(Hall([("held", 3)]), (5,)), [])
        self.assertEqual(firm_of(Hall([("held", 5)]), (3,)), [])
        self.assertEqual(firm_of(Hall([("sum", 2, ((0, 9),))]), (11,)), [])
        self.assertEqual(firm_of(Hall([("sum", 2, ((0, 9),))]), (2,)), [0])

    def test_far_up(self):
        self.assertEqual(firm_of(Hall([("held", FAR), ("held", FAR), ("held", 3)]), (FAR, FAR + 1, 3)), [0, 2])

    def test_as_the_document_says(self):
        for _, hall, standing in small_halls(907, 400, 6):
            self.assertEqual(firm_of(hall, standing), naive_firm(hall, standing))

    def test_stay_whatever_turns_come_and_whatever_others_show(self):
        for chance, hall, standing in small_halls(908, 300, 6):
            line, firm, here = waterline(hall, standing), firm_of(hall, standing), standing
            if line is None:
                continue
            for _ in range(12):
                if chance.random() < 0.5:
                    here = turned(hall, here, [person for person in range(len(hall)) if chance.random() < 0.5])
                else:
                    here = tuple(shown if person in firm or chance.random() < 0.5 else line + chance.randint(0, 5)
                                 for person, shown in enumerate(here))
                self.assertEqual([here[person] for person in firm], [standing[person] for person in firm])
                for number in range(line + 1):
                    if naive_is_line(hall, standing, number):
                        self.assertTrue(is_line(hall, here, number))
                now = waterline(hall, here)
                self.assertTrue(now is None or now >= line)
                self.assertLessEqual(set(firm), set(firm_of(hall, here)))

    def test_all_rest_where_there_is_none_any_more(self):
        for _, hall, standing in small_halls(909, 200, 6):
            line = 0
            while waterline(hall, standing) is not None:
                self.assertGreaterEqual(waterline(hall, standing), line)
                line = waterline(hall, standing)
                standing = turned(hall, standing, list(range(len(hall))))
            self.assertTrue(naive_is_rest(hall, standing))

    def test_names_and_the_askers_own(self):
        told = firm_of(hall=row_of(3), standing=(0, 1, 4))
        self.assertIs(type(told), list)
        told.append(9)
        self.assertEqual(firm_of(row_of(3), (0, 1, 4)), [0, 1])
        of_a_rest = firm_of(row_of(2), (0, 1))
        of_a_rest.clear()
        self.assertEqual(firm_of(row_of(2), (0, 1)), [0, 1])


if __name__ == "__main__":
    unittest.main()
