"""Stretches: A2, N2, N3 and nightdeal/stretches.py."""

import random
import unittest

import things
from nightdeal.errors import BadNumber, BadStretches
from nightdeal.stretches import (
    are_stretches, first_fit, holds, joined, long_of, met, need_stretches, without,
)
from plain import told_as_stretches

LAST = 1000000
MOST = [(3 * at, 3 * at + 1) for at in range(2000)]
GOOD = [
    [], [(0, 1)], [(0, LAST)], [(LAST - 1, LAST)], [(0, 1), (2, 3)], [(5, 9), (10, 20), (22, 23)],
    [(0, 1), (LAST - 1, LAST)], MOST,
]
# pairs of ways in which lists can lie to one another
PAIRS = [
    ([], []), ([], [(3, 5)]), ([(3, 5)], [(3, 5)]), ([(0, 9)], [(3, 5)]), ([(0, 9)], [(0, 5)]),
    ([(0, 9)], [(5, 9)]), ([(0, 4)], [(4, 9)]), ([(0, 4)], [(5, 9)]), ([(0, 4)], [(3, 9)]),
    ([(0, 3), (6, 9)], [(3, 6)]), ([(0, 3), (6, 9)], [(2, 7)]), ([(0, 3), (6, 9)], [(4, 5)]),
    ([(0, 3), (6, 9)], [(3, 5)]), ([(0, 2), (4, 6), (8, 10)], [(2, 4), (6, 8)]),
    ([(0, 2), (4, 6), (8, 10)], [(1, 9)]), ([(0, 2), (4, 6)], [(0, 1), (5, 6)]),
    ([(0, 10)], [(1, 2), (3, 4), (9, 10)]), ([(1, 2), (8, 9)], [(1, 3), (7, 9)]),
]


def bad_lists():
    """Things that are no stretches, of every kind."""
    bad = things.other_kinds() + things.far_numbers() + [0, 1, ((0, 1),), {0: 1}, "ab", MOST + [(9000, 9001)]]
    bad += [[(0, 1), (1, 2)], [(0, 2), (1, 3)], [(5, 6), (0, 1)], [(0, 1), (0, 1)], [(0, 9), (3, 4)]]
    bad += [[(0, 0)], [(5, 5)], [(LAST, LAST)], [(6, 5)], [(-1, 1)], [(-2, -1)], [(0, LAST + 1)]]
    bad += [[(LAST, LAST + 1)], [(0, 1), (3, 3)], [(0, 1), (9, 3)]]
    bad += [[[0, 1]], [()], [(0,)], [(0, 1, 2)], [(0, 1), (2, 3, 4)], [(0, 1), [2, 3]], [(0, 1), None]]
    for thing in things.other_kinds() + things.far_numbers():
        bad += [[thing], [(0, 1), thing], [(thing, 5)], [(0, thing)], [(0, 1), (3, thing)], [(thing, thing)]]
    return bad


def minutes_of(stretches):
    """A plain count of the minutes."""
    return {minute for begin, behind in stretches for minute in range(begin, behind)}


def some_stretches(chance, last):
    """Stretches of a narrow range, so that lists share ends and touch often."""
    return told_as_stretches({minute for minute in range(last) if chance.random() < 0.55})


def many_pairs():
    chance = random.Random(3)
    pairs = list(PAIRS)
    for last in list(range(0, 40)) * 8:
        pairs.append((some_stretches(chance, last), some_stretches(chance, last)))
    return pairs


class KindTest(unittest.TestCase):

    def test_stretches(self):
        for thing in GOOD:
            self.assertIs(are_stretches(thing), True)
            self.assertIsNone(need_stretches(thing))

    def test_bounds_of_the_count(self):
        self.assertEqual(len(MOST), 2000)
        self.assertIs(are_stretches(MOST), True)
        self.assertIs(are_stretches(MOST + [(9000, 9001)]), False)
        with self.assertRaises(BadStretches):
            need_stretches(MOST + [(9000, 9001)])

    def test_no_stretches(self):
        for thing in bad_lists():
            self.assertIs(are_stretches(thing), False)
            with self.assertRaises(BadStretches):
                need_stretches(thing)

    def test_true_is_no_minute(self):
        self.assertIs(are_stretches([(1, 5)]), True)
        self.assertIs(are_stretches([(True, 5)]), False)
        self.assertIs(are_stretches([(0, True)]), False)
        self.assertIs(are_stretches([(False, 1)]), False)


class RefusalTest(unittest.TestCase):

    def test_bad_stretches_of_two(self):
        for name in (joined, met, without):
            for thing in bad_lists():
                with self.assertRaises(BadStretches):
                    name(thing, [(0, 1)])
                with self.assertRaises(BadStretches):
                    name([(0, 1)], thing)
                # where the first has nothing to tell, too
                with self.assertRaises(BadStretches):
                    name([], thing)
                with self.assertRaises(BadStretches):
                    name(thing, [])

    def test_bad_stretches_ahead_of_bad_numbers(self):
        for thing in bad_lists():
            with self.assertRaises(BadStretches):
                long_of(thing)
            for number in (0, 1, -1, None):
                with self.assertRaises(BadStretches):
                    holds(thing, number, number)
                with self.assertRaises(BadStretches):
                    first_fit(thing, number, number)

    def test_bad_numbers_of_holds(self):
        for one in ([], [(0, 9)]):
            for number in things.other_kinds() + things.far_numbers() + [-1, LAST + 1]:
                for begin, behind in ((number, 5), (5, number), (number, number), (0, number), (LAST, number)):
                    with self.assertRaises(BadNumber):
                        holds(one, begin, behind)
            for begin, behind in ((0, 0), (LAST, LAST), (LAST, 0), (5, 5), (6, 5)):
                self.assertIs(holds(one, begin, behind), True)

    def test_bad_numbers_of_first_fit(self):
        for one in ([], [(0, 9)]):
            for number in things.other_kinds() + things.far_numbers():
                for minute, long in ((number, 5), (5, number), (number, number)):
                    with self.assertRaises(BadNumber):
                        first_fit(one, minute, long)
            for minute, long in ((-1, 1), (2 * LAST + 1, 1), (0, 0), (0, LAST + 1), (0, -1)):
                with self.assertRaises(BadNumber):
                    first_fit(one, minute, long)
            for minute, long in ((2 * LAST, 1), (LAST, 1), (LAST + 1, 1), (0, LAST), (2 * LAST, LAST)):
                self.assertIsNone(first_fit(one, minute, long))


class TogetherTest(unittest.TestCase):

    def check(self, one, other):
        own, others = minutes_of(one), minutes_of(other)
        self.assertEqual(joined(one, other), told_as_stretches(own | others), (one, other))
        self.assertEqual(met(one, other), told_as_stretches(own & others), (one, other))
        self.assertEqual(without(one, other), told_as_stretches(own - others), (one, other))

    def test_against_a_plain_count(self):
        for one, other in many_pairs():
            self.check(one, other)
            self.check(other, one)

    def test_a_list_and_itself_and_none(self):
        for one in GOOD:
            self.assertEqual(joined(one, one), one)
            self.assertEqual(met(one, one), one)
            self.assertEqual(without(one, one), [])
            self.assertEqual(joined(one, []), one)
            self.assertEqual(joined([], one), one)
            self.assertEqual(met(one, []), [])
            self.assertEqual(met([], one), [])
            self.assertEqual(without(one, []), one)
            self.assertEqual(without([], one), [])

    def test_at_the_last_minute(self):
        whole, ends = [(0, LAST)], [(0, 1), (LAST - 1, LAST)]
        self.assertEqual(joined(whole, ends), whole)
        self.assertEqual(met(whole, ends), ends)
        self.assertEqual(without(whole, ends), [(1, LAST - 1)])
        self.assertEqual(without(ends, whole), [])
        self.assertEqual(joined([(0, LAST - 1)], [(LAST - 1, LAST)]), whole)
        self.assertEqual(without([(LAST - 1, LAST)], [(0, LAST - 1)]), [(LAST - 1, LAST)])
        self.assertEqual(without(whole, [(0, LAST - 1)]), [(LAST - 1, LAST)])

    def test_more_than_may_be_handed_in(self):
        shifted = [(3 * at + 6001, 3 * at + 6002) for at in range(2000)]
        self.assertEqual(joined(MOST, shifted), MOST + shifted)
        self.assertEqual(len(without([(0, LAST)], shifted)), 2001)
        wide = [(10 * at, 10 * at + 9) for at in range(2000)]
        ends = [(10 * at + 8, 10 * at + 11) for at in range(2000)]
        self.assertEqual(len(met(wide, ends)), 3999)
        self.check(wide, ends)
        self.check(ends, wide)
        for told in (joined(MOST, shifted), met(wide, ends), without([(0, LAST)], shifted)):
            with self.assertRaises(BadStretches):
                need_stretches(told)

    def test_what_is_told_is_new_and_what_is_handed_in_stays(self):
        for name in (joined, met, without):
            for one, other in PAIRS + [([(1, 5)], []), ([], [(1, 5)]), ([(0, 9)], [(0, 9)])]:
                first, second = list(one), list(other)
                told = name(first, second)
                self.assertIsInstance(told, list)
                self.assertIsNot(told, first)
                self.assertIsNot(told, second)
                self.assertIsNot(name(first, second), told)
                kept = list(told)
                told.append("more")
                self.assertEqual((first, second), (one, other))
                del told[-1]
                first.append((50, 60))
                second.clear()
                self.assertEqual(told, kept)

    def test_one_list_handed_in_twice_stays(self):
        one = [(1, 5), (7, 9)]
        for name in (joined, met, without):
            name(one, one)
            self.assertEqual(one, [(1, 5), (7, 9)])


class LongTest(unittest.TestCase):

    def test_against_a_plain_count(self):
        for one, other in many_pairs():
            self.assertEqual(long_of(one), len(minutes_of(one)))
        self.assertEqual(long_of([]), 0)
        self.assertEqual(long_of([(0, LAST)]), LAST)
        self.assertEqual(long_of(MOST), 2000)

    def test_what_is_handed_in_stays(self):
        one = [(1, 5), (7, 9)]
        long_of(one), holds(one, 1, 5), first_fit(one, 2, 2)
        self.assertEqual(one, [(1, 5), (7, 9)])


class HoldsTest(unittest.TestCase):

    def test_against_a_plain_count(self):
        for one in ([], [(3, 8)], [(0, 4), (5, 9)], [(1, 2), (3, 6), (8, 12)]):
            own = minutes_of(one)
            for begin in range(14):
                for behind in range(14):
                    wanted = all(minute in own for minute in range(begin, behind))
                    self.assertIs(holds(one, begin, behind), wanted, (one, begin, behind))

    def test_ends_and_a_minute_beside(self):
        one = [(10, 20), (30, LAST)]
        for begin, behind, wanted in (
            (10, 20, True), (9, 20, False), (10, 21, False), (11, 19, True), (9, 10, False), (20, 21, False),
            (20, 30, False), (10, 30, False), (30, LAST, True), (29, LAST, False), (LAST - 1, LAST, True),
        ):
            self.assertIs(holds(one, begin, behind), wanted, (begin, behind))


class FirstFitTest(unittest.TestCase):

    def plain(self, one, minute, long):
        own = minutes_of(one)
        for begin in range(minute, 40):
            if all(begin + gone in own for gone in range(long)):
                return begin
        return None

    def test_against_a_plain_count(self):
        for one in ([], [(0, 1)], [(3, 8)], [(0, 4), (5, 9)], [(1, 2), (3, 6), (8, 12)], [(2, 4), (5, 20)]):
            for minute in range(24):
                for long in range(1, 20):
                    wanted = self.plain(one, minute, long)
                    self.assertEqual(first_fit(one, minute, long), wanted, (one, minute, long))

    def test_at_the_last_minute(self):
        whole = [(0, LAST)]
        self.assertEqual(first_fit(whole, 0, LAST), 0)
        self.assertIsNone(first_fit(whole, 1, LAST))
        self.assertEqual(first_fit(whole, LAST - 1, 1), LAST - 1)
        self.assertIsNone(first_fit(whole, LAST, 1))
        self.assertIsNone(first_fit(whole, 2 * LAST, 1))
        self.assertEqual(first_fit([(0, 5), (LAST - 7, LAST)], 0, 7), LAST - 7)
        self.assertIsNone(first_fit([(0, 5), (LAST - 7, LAST)], 0, 8))
