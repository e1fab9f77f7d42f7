"""Whole numbers and names: A2, N1 and nightdeal/numbers.py."""

import unittest

import things
from nightdeal.errors import BadNumber
from nightdeal.numbers import is_among, is_name, is_whole, need_number, number_of

LETTERS = "abcdefghijklmnopqrstuvwxyz"


class WholeTest(unittest.TestCase):

    def test_ints_are_whole(self):
        for thing in (0, 1, -1, 7, 2 ** 70) + tuple(things.far_numbers()):
            self.assertIs(is_whole(thing), True)

    def test_true_and_false_are_no_whole_numbers(self):
        self.assertIs(is_whole(True), False)
        self.assertIs(is_whole(False), False)

    def test_nothing_else_is_whole(self):
        for thing in things.other_kinds():
            self.assertIs(is_whole(thing), False)


class NameTest(unittest.TestCase):

    def test_one_to_eight_small_letters(self):
        for letter in LETTERS:
            for long in range(1, 9):
                self.assertIs(is_name(letter * long), True)
        self.assertIs(is_name("azbycxdw"), True)

    def test_no_letter_and_nine_are_none(self):
        self.assertIs(is_name(""), False)
        self.assertIs(is_name("abcdefghi"), False)
        self.assertIs(is_name("a" * 10 ** 5), False)

    def test_any_other_sign_anywhere_is_none(self):
        signs = [chr(code) for code in range(600) if chr(code) not in LETTERS]
        signs += ["\u03b1", "\u0430", "\uff41", "\U0001d44e", "\ud800"]
        for sign in signs:
            for text in (sign, sign + "ab", "a" + sign + "b", "ab" + sign, "abcdefg" + sign):
                self.assertIs(is_name(text), False, ascii(text))

    def test_nothing_else_is_a_name(self):
        for thing in things.other_kinds() + things.far_numbers() + [0, 1, ["a"], ("a",), {"a": 1}, b"abc"]:
            self.assertIs(is_name(thing), False)


class AmongTest(unittest.TestCase):

    def test_both_bounds_and_one_beyond_each(self):
        for least, most in ((0, 1000000), (1, 8), (5, 5), (-3, 3), (-9, -2)):
            for thing, wanted in ((least, True), (most, True), (least - 1, False), (most + 1, False)):
                self.assertIs(is_among(thing, least, most), wanted, (thing, least, most))
        self.assertIs(is_among(4, 3, 5), True)

    def test_nothing_is_among_bounds_the_wrong_way_about(self):
        for thing in range(0, 8):
            self.assertIs(is_among(thing, 5, 3), False)

    def test_nothing_else_is_among(self):
        for thing in things.other_kinds():
            self.assertIs(is_among(thing, 0, 1), False)

    def test_far_numbers(self):
        for thing in things.far_numbers():
            self.assertIs(is_among(thing, 0, 1000000), False)
            self.assertIs(is_among(thing, -(10 ** 6000), 10 ** 6000), True)


class NeedTest(unittest.TestCase):

    def test_none_where_it_is(self):
        for thing in (3, 4, 5):
            self.assertIsNone(need_number(thing, 3, 5))

    def test_refused_one_beyond(self):
        for thing in (2, 6):
            with self.assertRaises(BadNumber):
                need_number(thing, 3, 5)

    def test_refused_of_any_kind(self):
        for thing in things.other_kinds() + things.far_numbers():
            with self.assertRaises(BadNumber):
                need_number(thing, 0, 1)


class FiguresTest(unittest.TestCase):

    def test_1_to_7_figures(self):
        for number in [0, 1, 9, 10, 19, 90, 100, 1000000, 1234567, 9999999] + list(range(0, 9999999, 9973)):
            self.assertEqual(number_of(str(number)), number)

    def test_no_figures(self):
        for word in (
            "", " ", "a", "-", "+1", "-1", "-0", "01", "00", "007", "1 ", " 1", "1\n", "1.", "1.0", "1_0", "0x1", "1e1",
            "10000000", "00000001", "9" * 5000, "\u0661", "\u00b2", "\uff11", "/", ":", "1/", "1:",
        ):
            with self.assertRaises(BadNumber):
                number_of(word)
