"""Marks: A2, M1 and nightdeal/marks.py."""

import unittest

import things
from nightdeal.errors import BadMark
from nightdeal.marks import Mark, far
from plain import told_as_stretches

LAST = 10 ** 6
# place, first, high, turn: always high, all but a minute, one minute, and between
MARKS = [
    (0, 0, 1, 1), (359, 0, 2, 2), (5, 1, 1, 2), (7, 0, 1, 2), (10, 6, 7, 7), (10, 6, 6, 7), (10, 0, 6, 7),
    (10, 6, 1, 7), (10, 0, 1, 7), (10, 3, 4, 7), (90, 9, 5, 10), (90, 5, 5, 10), (1, 12, 3, 13),
]
GREAT = [
    (180, 2999, 1, 3000), (180, 2999, 2999, 3000), (180, 0, 3000, 3000), (180, 1500, 1500, 3000),
    (180, 0, 1, 3000), (180, 0, 2999, 3000), (3, 1, 1, 2),
]


def high_minutes(parts, begin, behind):
    """The minutes at which a mark stands high, counted off turn by turn."""
    place, first, high, turn = parts
    found = set()
    rise = first + (begin // turn - 2) * turn
    while rise < behind:
        found.update(minute for minute in range(rise, rise + high) if begin <= minute < behind)
        rise += turn
    return found


class FarTest(unittest.TestCase):

    def test_all_pairs_of_places(self):
        # step by step away from a place, to both sides at once
        for one in range(360):
            for steps in range(181):
                self.assertEqual(far(one, (one + steps) % 360), steps)
                self.assertEqual(far(one, (one - steps) % 360), steps)

    def test_some(self):
        for one, other, wanted in ((0, 0, 0), (0, 359, 1), (359, 0, 1), (0, 180, 180), (10, 200, 170), (1, 182, 179)):
            self.assertEqual(far(one, other), wanted)


class MarkTest(unittest.TestCase):

    def test_its_values(self):
        for parts in MARKS + GREAT + [(0, 0, 1, 1), (359, 2999, 3000, 3000)]:
            mark = Mark(*parts)
            self.assertEqual((mark.place, mark.first, mark.high, mark.turn), parts)

    def test_values_are_only_read(self):
        mark = Mark(10, 3, 4, 7)
        for name in ("place", "first", "high", "turn"):
            with self.assertRaises(AttributeError):
                setattr(mark, name, 1)
            with self.assertRaises(AttributeError):
                delattr(mark, name)
        self.assertEqual((mark.place, mark.first, mark.high, mark.turn), (10, 3, 4, 7))
        self.assertEqual(mark.high_in(0, 14), [(3, 7), (10, 14)])

    def test_bounds_of_each_part(self):
        for parts in (
            (-1, 0, 1, 1), (360, 0, 1, 1), (0, -1, 1, 1), (0, 1, 1, 1), (0, 7, 1, 7), (0, 0, 0, 7), (0, 0, 8, 7),
            (0, 0, -1, 7), (0, 0, 1, 0), (0, 0, 0, 0), (0, 0, 1, 3001), (0, 0, 1, -1), (0, 3000, 1, 3000),
            (0, 0, 3001, 3000), (0, -1, 0, 0),
        ):
            with self.assertRaises(BadMark):
                Mark(*parts)

    def test_each_part_of_any_kind(self):
        for thing in things.other_kinds() + things.far_numbers():
            for parts in (
                (thing, 0, 1, 7), (0, thing, 1, 7), (0, 0, thing, 7), (0, 0, 1, thing),
                (thing, 0, 1, thing), (thing, thing, thing, thing),
            ):
                with self.assertRaises(BadMark):
                    Mark(*parts)


class HighTest(unittest.TestCase):

    def test_is_high(self):
        for parts in MARKS + GREAT:
            mark = Mark(*parts)
            for begin, behind in ((0, 50), (2990, 3010), (LAST - 20, LAST + 1)):
                own = high_minutes(parts, begin, behind)
                for minute in range(begin, behind):
                    self.assertIs(mark.is_high(minute), minute in own, (parts, minute))

    def test_high_in_narrow_parts(self):
        for parts in MARKS:
            mark = Mark(*parts)
            for base in (0, 2990, LAST - 30):
                for begin in range(base, base + 31):
                    for behind in range(base, base + 31):
                        wanted = told_as_stretches(high_minutes(parts, begin, behind))
                        self.assertEqual(mark.high_in(begin, behind), wanted, (parts, begin, behind))

    def test_high_in_wide_parts(self):
        for parts in MARKS + GREAT:
            mark = Mark(*parts)
            for begin, behind in ((0, 2000), (1499, 3499), (2999, 3000), (2998, 3001), (LAST - 2000, LAST)):
                wanted = told_as_stretches(high_minutes(parts, begin, behind))
                self.assertEqual(mark.high_in(begin, behind), wanted, (parts, begin, behind))

    def test_high_in_nothing(self):
        for parts in MARKS + GREAT:
            for begin, behind in ((0, 0), (5, 5), (6, 5), (LAST, LAST), (LAST, 0), (2000, 0)):
                self.assertEqual(Mark(*parts).high_in(begin, behind), [])

    def test_what_is_told_is_the_asker_s_own(self):
        for parts, wanted in (((10, 3, 4, 7), [(3, 7), (10, 14)]), ((10, 3, 7, 7), [(0, 14)])):
            mark = Mark(*parts)
            told = mark.high_in(0, 14)
            self.assertIsInstance(told, list)
            told.clear()
            self.assertEqual(mark.high_in(0, 14), wanted)
            empty = mark.high_in(5, 5)
            empty.append((0, 1))
            self.assertEqual(mark.high_in(5, 5), [])


class NextHighTest(unittest.TestCase):

    def plain(self, mark, minute, long):
        """By going through the minutes, backwards: how long it stands high from each one on.

        A turn holds all begins that there are; a long of no more than a turn ends within two."""
        found, stands = None, 0
        for begin in reversed(range(minute, minute + 2 * mark.turn)):
            stands = stands + 1 if mark.is_high(begin) else 0
            if stands >= long:
                found = begin
        return found

    def test_against_the_minutes(self):
        for parts in MARKS:
            mark = Mark(*parts)
            for base in (0, 2990, LAST - 29):
                for minute in range(base, base + 30):
                    for long in range(1, mark.turn + 1):
                        wanted = self.plain(mark, minute, long)
                        self.assertEqual(mark.next_high(minute, long), wanted, (parts, minute, long))

    def test_great_turns(self):
        for parts in GREAT:
            mark = Mark(*parts)
            for minute in (0, 1, 1499, 1500, 1501, 2998, 2999, 3000, LAST):
                for long in (1, 2, 1499, 1500, 1501, 2998, 2999, 3000):
                    wanted = self.plain(mark, minute, long)
                    self.assertEqual(mark.next_high(minute, long), wanted, (parts, minute, long))

    def test_great_longs(self):
        for always in (Mark(0, 3, 3000, 3000), Mark(0, 0, 1, 1), Mark(0, 6, 7, 7)):
            for minute in (0, 1, 2999, LAST):
                for long in (1, 2, 3000, 3001, 6000, LAST):
                    self.assertEqual(always.next_high(minute, long), minute)
        for parts in MARKS + GREAT:
            if parts[2] < parts[3]:
                for minute in (0, 7, LAST):
                    for long in (parts[2] + 1, parts[3], 3001, LAST):
                        self.assertIsNone(Mark(*parts).next_high(minute, long))

    def test_at_the_last_minute(self):
        self.assertEqual(Mark(0, 1, 1, 3).next_high(LAST, 1), LAST)
        self.assertEqual(Mark(0, 2, 1, 3).next_high(LAST, 1), LAST + 1)
        self.assertEqual(Mark(0, 0, 2, 3).next_high(LAST, 2), LAST + 2)
