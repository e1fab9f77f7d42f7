"""The refusals of nightdeal/errors.py."""

import unittest

from nightdeal import errors

NAMES = [
    "BadNumber", "BadStretches", "BadMark", "BadSky", "BadWish", "BadBook", "BadText", "NoSuch",
    "BadLook", "BadDeed", "TooGreat",
]


class ErrorsTest(unittest.TestCase):

    def test_any_refusal_is_a_value_error(self):
        self.assertEqual(errors.DealError.__bases__, (ValueError,))

    def test_each_class_is_right_under_deal_error(self):
        for name in NAMES:
            with self.subTest(name):
                kind = getattr(errors, name)
                self.assertEqual(kind.__bases__, (errors.DealError,))
                self.assertEqual(kind.__name__, name)
                self.assertEqual(kind.__module__, "nightdeal.errors")

    def test_none_is_under_another_one(self):
        for one in NAMES:
            for other in NAMES:
                under = issubclass(getattr(errors, one), getattr(errors, other))
                self.assertEqual(under, one == other, (one, other))

    def test_bad_text_has_its_line(self):
        for line in (None, 0, 17):
            with self.assertRaises(errors.DealError) as caught:
                raise errors.BadText(line)
            self.assertEqual(caught.exception.line, line)

    def test_bad_look_has_its_place(self):
        for at in (0, 1, 8):
            with self.assertRaises(ValueError) as caught:
                raise errors.BadLook(at)
            self.assertEqual(caught.exception.at, at)

    def test_fields_are_there_from_the_first(self):
        self.assertIsNone(errors.BadText().line)
        self.assertEqual(errors.BadLook().at, 0)

    def test_fields_are_each_object_s_own(self):
        one, other = errors.BadText(1), errors.BadText(2)
        one.line = 5
        self.assertEqual(other.line, 2)
        one, other = errors.BadLook(1), errors.BadLook(2)
        one.at = 5
        self.assertEqual(other.at, 2)
