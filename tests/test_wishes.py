"""Wishes: A2, B1 and nightdeal/wishes.py."""

import unittest

import plain
import things
from nightdeal.errors import BadWish
from nightdeal.wishes import Wish

GOOD = ("wish", "watcher", "mark", 60, 3, 90, 5, (2, 4))
FIELDS = ("name", "watcher", "target", "long", "times", "apart", "worth", "nights")
# place among the parts, least, most
NUMBERS = [(3, 1, 600), (4, 1, 9), (5, 0, 10000), (6, 1, 1000)]


def with_part(at, thing):
    parts = list(GOOD)
    parts[at] = thing
    return parts


class WishTest(unittest.TestCase):

    def taken(self, parts):
        self.assertEqual(plain.all_of_wish(Wish(*parts)), tuple(parts))

    def refused(self, parts):
        with self.assertRaises(BadWish):
            Wish(*parts)

    def test_fields_as_handed_in(self):
        self.taken(GOOD)
        wish = Wish(*GOOD)
        for name, part in zip(FIELDS, GOOD):
            self.assertIs(getattr(wish, name), part)

    def test_fields_are_each_object_s_own(self):
        one, other = Wish(*GOOD), Wish("b", "c", "d", 1, 1, 0, 1, (0, 0))
        self.assertEqual(plain.all_of_wish(one), GOOD)
        self.assertEqual(plain.all_of_wish(other), ("b", "c", "d", 1, 1, 0, 1, (0, 0)))

    def test_no_field_changes_behind(self):
        wish = Wish(*GOOD)
        for name in FIELDS:
            with self.assertRaises(AttributeError):
                setattr(wish, name, 1)
        self.assertEqual(plain.all_of_wish(wish), GOOD)

    def test_names(self):
        for at in range(3):
            for name in ("a", "z", "abcdefgh", "zzzzzzzz"):
                self.taken(with_part(at, name))
            for name in ("", "abcdefghi", "A", "aB", "a1", "a b", " a", "a ", "a\n", "a_b", "1", "`", "{", "\u00e4"):
                self.refused(with_part(at, name))
            for thing in things.not_names() + [["a"], ("a",), b"a", {"a": 1}]:
                self.refused(with_part(at, thing))
        self.taken(("a", "a", "a") + GOOD[3:])

    def test_numbers(self):
        for at, least, most in NUMBERS:
            for number in (least, least + 1, most - 1, most):
                self.taken(with_part(at, number))
            for number in (least - 1, most + 1, -most, 10 * most):
                self.refused(with_part(at, number))
            for thing in things.not_numbers() + things.far_numbers() + ["3", [3], (3,)]:
                self.refused(with_part(at, thing))

    def test_true_and_false_are_no_numbers(self):
        for at, _, _ in NUMBERS:
            self.refused(with_part(at, True))
            self.refused(with_part(at, False))
        for nights in ((True, 1), (0, True), (True, True), (False, 0), (False, False)):
            self.refused(with_part(7, nights))

    def test_nights(self):
        for first in range(20):
            for last in range(20):
                if first <= last:
                    self.taken(with_part(7, (first, last)))
                else:
                    self.refused(with_part(7, (first, last)))
        for nights in ((-1, 0), (-1, -1), (0, 20), (19, 20), (20, 20), (-5, 19), (0, -1), (20, 19)):
            self.refused(with_part(7, nights))

    def test_nights_of_another_form(self):
        for nights in ([0, 1], [0, 0], (), (0,), (0, 1, 2), (0, 0, 0), {0: 1}, {0, 1}, "01", ((0, 1),), range(2), 0):
            self.refused(with_part(7, nights))

    def test_nights_of_any_kind(self):
        for thing in things.not_of(tuple):
            self.refused(with_part(7, thing))
        for thing in things.not_numbers() + things.far_numbers():
            for nights in ((thing, 1), (0, thing), (thing, thing)):
                self.refused(with_part(7, nights))

    def test_all_parts_of_any_kind(self):
        for thing in things.all_kinds():
            self.refused([thing] * 8)

    def test_several_at_once(self):
        for one in range(8):
            for other in range(8):
                parts = with_part(one, None)
                parts[other] = 10 ** 9
                self.refused(parts)
