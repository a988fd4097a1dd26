"""Promise 1.1: the errors."""

import unittest

from laidviews.errors import Clashing, Malformed, Misused, Oversized, Refused, Unknown

FIELDS = [
    (Malformed, "at", 7),
    (Unknown, "name", "a"),
    (Clashing, "name", "b2"),
    (Oversized, "limit", "views"),
    (Misused, "why", "light"),
]


class Errors(unittest.TestCase):
    def test_refused_is_a_value_error(self):
        self.assertTrue(issubclass(Refused, ValueError))
        self.assertIsNot(Refused, ValueError)
        self.assertIsInstance(Refused(), Refused)

    def test_direct_subclasses(self):
        for kind, _, _ in FIELDS:
            self.assertEqual(kind.__bases__, (Refused,))

    def test_only_own_field(self):
        for kind, field, value in FIELDS:
            self.assertEqual(vars(kind(value)), {field: value})

    def test_field_by_keyword(self):
        for kind, field, value in FIELDS:
            self.assertEqual(getattr(kind(**{field: value}), field), value)

    def test_exactly_one_argument(self):
        for kind, _, value in FIELDS:
            with self.assertRaises(TypeError):
                kind()
            with self.assertRaises(TypeError):
                kind(value, value)

    def test_the_field_is_the_very_value(self):
        for kind, field, _ in FIELDS:
            value = object()
            self.assertIs(getattr(kind(value), field), value)

    def test_raised_and_caught(self):
        for kind, field, value in FIELDS:
            with self.assertRaises(ValueError) as caught:
                raise kind(value)
            self.assertIs(caught.exception.__class__, kind)
            self.assertEqual(getattr(caught.exception, field), value)


if __name__ == "__main__":
    unittest.main()
