"""The interface: limits.py and errors.py."""

import copy
import unittest

from lesserhall import errors, limits

# (name, the class of Python's own above it, the field or None)
REFUSALS = [
    ("BadHall", ValueError, "person"),
    ("BadRule", ValueError, None),
    ("BadRow", ValueError, "row"),
    ("BadText", ValueError, "text"),
    ("BadDeed", ValueError, "number"),
    ("NotAlike", ValueError, None),
    ("NotLike", ValueError, "at"),
    ("NotSums", ValueError, "person"),
    ("NoSum", ValueError, "person"),
    ("NoPerson", IndexError, "person"),
    ("NoRest", IndexError, "number"),
    ("HasRound", RuntimeError, None),
    ("Held", RuntimeError, "person"),
    ("NotHeld", RuntimeError, "person"),
    ("TooMany", OverflowError, "many"),
]


class LimitsTest(unittest.TestCase):
    def test_limits(self):
        self.assertEqual((limits.MOST_RESTS, limits.MOST_STANDINGS), (2000, 3000))


class ErrorsTest(unittest.TestCase):
    def test_straight_under_the_told_class(self):
        self.assertEqual(len(REFUSALS), 15)
        for name, above, _ in REFUSALS:
            with self.subTest(name):
                self.assertEqual(getattr(errors, name).__bases__, (above,))

    def test_defined_in_errors(self):
        for name, _, _ in REFUSALS:
            self.assertEqual(getattr(errors, name).__module__, "lesserhall.errors")

    def test_none_under_another(self):
        classes = [getattr(errors, name) for name, _, _ in REFUSALS]
        self.assertEqual(len(set(classes)), 15)
        for one in classes:
            for other in classes:
                self.assertEqual(issubclass(one, other), one is other)

    def test_field_by_place_and_by_name(self):
        for name, _, field in REFUSALS:
            if field is None:
                continue
            made = getattr(errors, name)
            for worth in (0, 7, -3, 10 ** 5000, "(()", ""):
                with self.subTest(name):
                    self.assertEqual(getattr(made(worth), field), worth)
                    self.assertEqual(getattr(made(**{field: worth}), field), worth)

    def test_made_with_just_what_stands_in_the_brackets(self):
        for name, _, field in REFUSALS:
            made = getattr(errors, name)
            with self.subTest(name):
                if field is None:
                    self.assertIsInstance(made(), made)
                    self.assertRaises(TypeError, made, 1)
                else:
                    self.assertRaises(TypeError, made)
                    self.assertRaises(TypeError, made, 1, 2)

    def test_raised_and_caught_by_the_class_above(self):
        for name, above, field in REFUSALS:
            made = getattr(errors, name)
            refusal = made() if field is None else made(4)
            with self.subTest(name):
                with self.assertRaises(above) as caught:
                    raise refusal
                self.assertIs(type(caught.exception), made)

    def test_a_copy_has_the_field(self):
        for name, _, field in REFUSALS:
            made = getattr(errors, name)
            with self.subTest(name):
                if field is None:
                    self.assertIs(type(copy.copy(made())), made)
                else:
                    self.assertEqual(getattr(copy.copy(made(4)), field), 4)


if __name__ == "__main__":
    unittest.main()
