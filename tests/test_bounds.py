"""Several nights: A2, W1 and nightdeal/bounds.py."""

import unittest

import plain_deals
import things
from nightdeal.best import best
from nightdeal.book import Book
from nightdeal.bounds import bound, gone_through
from nightdeal.errors import NoSuch, TooGreat
from nightdeal.marks import Mark
from nightdeal.sky import Sky
from nightdeal.wishes import Wish

SKY = Sky({"all": Mark(0, 0, 1, 1), "east": Mark(180, 0, 1, 1)}, [])
NIGHTS = [(0, 100), (200, 300), (400, 500)]
WISHES = [
    Wish("arc", "ann", "all", 40, 2, 0, 5, (0, 2)), Wish("bow", "ann", "all", 60, 1, 0, 9, (0, 1)),
    Wish("cup", "bob", "all", 50, 9, 130, 4, (1, 2)),
]
BOOK = Book(SKY, 180, 0, NIGHTS, {"ann": 1000, "bob": 1000}, WISHES)
NO_NIGHTS = [
    [], [0, 0], [1, 0], [0, 1, 1], [0, 2, 1], [3], [-1], [0, 3], [True], [0, True], [False], [False, 1], ["0"], [None],
    [[0]], [(0,)], [0, 1, 2, 3], [0, 10 ** 5000], (0,), (0, 1), {0: 1}, {0}, "0", 0, 1, range(2), None, [{}], [0, "1"],
]


class BoundTest(unittest.TestCase):

    def test_the_sum_of_the_nights(self):
        # arc and bow fill the first night, but cup takes the place of one of them in the second
        self.assertEqual([best(BOOK, {}, night)[0] for night in range(3)], [14, 14, 9])
        self.assertEqual(bound(BOOK, {}, [0]), 14)
        self.assertEqual(bound(BOOK, {}, [2]), 9)
        self.assertEqual(bound(BOOK, {}, [1]), 14)
        self.assertEqual(bound(BOOK, {"arc": [9, 50]}, [1, 2]), 9 + 4)

    def test_the_sum_of_the_wishes(self):
        self.assertEqual(bound(BOOK, {}, [0, 1]), 2 * 5 + 9 + 4)
        self.assertEqual(bound(BOOK, {}, [0, 1, 2]), 2 * 5 + 9 + 2 * 4)
        self.assertEqual(bound(BOOK, {}, [0, 2]), 2 * 5 + 9 + 4)
        self.assertEqual(bound(BOOK, {"arc": [5]}, [0, 1, 2]), 5 + 9 + 2 * 4)
        self.assertEqual(bound(BOOK, {"arc": [5], "bow": [1]}, [0, 1]), min(5 + 4, 5 + 9))

    def test_done_more_often_than_wanted(self):
        self.assertEqual(bound(BOOK, {"arc": [1, 2, 3], "bow": [1, 2, 3]}, [0, 1, 2]), 8)

    def test_nothing_is_wanted(self):
        self.assertEqual(bound(Book(SKY, 1, 0, NIGHTS, {"ann": 1}, []), {}, [0, 1, 2]), 0)

    def test_against_both_sums(self):
        lesser = []
        for told, done, _ in plain_deals.books(41, 100, 40, 4, 3):
            book = told.book()
            for nights in ([0], [1], [2], [0, 1], [0, 2], [1, 2], [0, 1, 2]):
                one = sum(max(told.worth(row) for row in told.rows(done, night)) for night in nights)
                other = 0
                for name, wish in told.wishes.items():
                    left = wish.times - len(done.get(name, []))
                    for night in nights:
                        if name in told.wanted(night) and left > 0:
                            left -= 1
                            other += wish.worth
                self.assertEqual(bound(book, done, nights), min(one, other))
                lesser.append((one > other) - (one < other))
        self.assertGreater(min(lesser.count(way) for way in (-1, 0, 1)), 20)


class GoneThroughTest(unittest.TestCase):

    def test_one_night(self):
        for night in range(3):
            for done in ({}, {"arc": [1]}, {"arc": [1, 2], "cup": [120]}):
                self.assertEqual(gone_through(BOOK, done, [night]), best(BOOK, done, night)[0])

    def test_two_nights(self):
        # what is done in the first night can't be done again, or not so soon
        self.assertEqual(gone_through(BOOK, {}, [0, 1]), 14 + 9)
        self.assertEqual(gone_through(BOOK, {"arc": [0]}, [0, 1]), 14 + 4)
        self.assertEqual(gone_through(BOOK, {"bow": [0]}, [0, 2]), 5 + 9)

    def test_less_in_the_first_night_for_more_in_the_second(self):
        wishes = [
            Wish("arc", "ann", "all", 60, 1, 0, 5, (0, 1)), Wish("bow", "ann", "all", 60, 1, 0, 4, (0, 0)),
        ]
        book = Book(SKY, 180, 0, NIGHTS, {"ann": 1000}, wishes)
        self.assertEqual(best(book, {}, 0)[0], 5)
        self.assertEqual(gone_through(book, {}, [0, 1]), 9)

    def test_the_order_in_the_first_night_counts(self):
        # only who goes first in the first night is free again by the second half of the second one
        for one, other in (("arc", "bow"), ("bow", "arc")):
            for apart, wanted in ((100, 20), (101, 15)):
                wishes = [
                    Wish(one, "ann", "all", 50, 2, 200, 5, (0, 1)), Wish(other, "ann", "all", 50, 2, apart, 5, (0, 1)),
                ]
                book = Book(SKY, 180, 0, NIGHTS, {"ann": 1000}, wishes)
                self.assertEqual(gone_through(book, {}, [0, 1]), wanted)

    def test_a_share_that_runs_out(self):
        wishes = [
            Wish("arc", "ann", "all", 60, 1, 0, 5, (0, 0)), Wish("bow", "ann", "all", 60, 1, 0, 6, (1, 1)),
        ]
        book = Book(SKY, 180, 0, NIGHTS, {"ann": 100}, wishes)
        self.assertEqual(gone_through(book, {}, [0, 1]), 6)
        self.assertEqual(bound(book, {}, [0, 1]), 11)

    def test_against_all_orders(self):
        told_apart = 0
        for told, done, _ in plain_deals.books(42, 120, 40, 4, 3):
            book = told.book()
            for nights in ([0, 1], [0, 2], [1, 2]):
                wanted = 0
                for row in told.rows(done, nights[0]):
                    behind = plain_deals.with_looks(done, row)
                    later = max(told.worth(other) for other in told.rows(behind, nights[1]))
                    wanted = max(wanted, told.worth(row) + later)
                self.assertEqual(gone_through(book, done, nights), wanted)
                self.assertLessEqual(wanted, bound(book, done, nights))
                told_apart += wanted != best(book, done, nights[0])[0] + best(book, done, nights[1])[0]
        self.assertGreater(told_apart, 20)

    def test_against_all_rows_at_whatever_minutes(self):
        for told, done, _ in plain_deals.books(43, 150, 7, 3, 2):
            wanted = 0
            for row in told.all_rows(done, 0):
                behind = plain_deals.with_looks(done, row)
                later = max(told.worth(other) for other in told.rows(behind, 1))
                wanted = max(wanted, told.worth(row) + later)
            self.assertEqual(gone_through(told.book(), done, [0, 1]), wanted)

    def test_one_night_against_all_orders(self):
        for told, done, _ in plain_deals.books(44, 100, 50, 5):
            wanted = max(told.worth(row) for row in told.rows(done, 0))
            self.assertEqual(gone_through(told.book(), done, [0]), wanted)

    def test_nothing_is_changed(self):
        done, nights = {"cup": [1], "gone": [1], "bow": []}, [0, 1]
        for ask in (bound, gone_through):
            told = ask(BOOK, done, nights)
            self.assertEqual(ask(BOOK, done, nights), told)
        self.assertEqual((done, nights), ({"cup": [1], "gone": [1], "bow": []}, [0, 1]))


class TooGreatTest(unittest.TestCase):

    def six(self, nights):
        """Six wishes in the second night, and others in those told."""
        wishes = [Wish(name, "ann", "all", 10, 2, 0, 1, (1, 1)) for name in "abcdef"]
        wishes.extend(Wish(name, "ann", "all", 10, 2, 0, 1, nights) for name in "gh")
        return Book(SKY, 180, 0, NIGHTS, {"ann": 1000}, wishes)

    def test_more_than_five_that_may_still_be_done(self):
        book = self.six((0, 0))
        for nights in ([1], [0, 1], [1, 2]):
            with self.assertRaises(TooGreat):
                gone_through(book, {}, nights)
            with self.assertRaises(TooGreat):
                gone_through(book, {"a": [1], "g": [1, 2]}, nights)
        self.assertEqual(gone_through(book, {}, [0]), 2)
        self.assertEqual(gone_through(book, {}, [0, 2]), 2)
        self.assertEqual(bound(book, {}, [0, 1]), 8)

    def test_all_but_five_done_as_often_as_wanted(self):
        book = self.six((0, 0))
        for many in (2, 3):
            done = {"d": list(range(many))}
            self.assertEqual(gone_through(book, done, [1]), 5)
            self.assertEqual(gone_through(book, done, [0, 1]), 7)
        self.assertEqual(gone_through(self.six((1, 1)), {name: [1, 2] for name in "acg"}, [1]), 5)
        with self.assertRaises(TooGreat):
            gone_through(self.six((1, 1)), {name: [1, 2] for name in "ac"}, [1])

    def test_five_whose_rows_are_many(self):
        wishes = [Wish(name, "ann", "all", 10, 2, 0, 1, (0, 1)) for name in "abcde"]
        book = Book(SKY, 180, 0, NIGHTS, {"ann": 1000}, wishes)
        self.assertEqual(gone_through(book, {}, [0, 1]), 10)

    def test_six_of_whom_none_can_stand(self):
        wishes = [Wish(name, "ann", "all", 600, 1, 0, 1, (0, 1)) for name in "abcdef"]
        book = Book(SKY, 180, 0, NIGHTS, {"ann": 0}, wishes)
        with self.assertRaises(TooGreat):
            gone_through(book, {}, [0])


class NoSuchTest(unittest.TestCase):

    def test_no_nights(self):
        for thing in NO_NIGHTS + things.not_of(list):
            for ask in (bound, gone_through):
                with self.assertRaises(NoSuch):
                    ask(BOOK, {}, thing)

    def test_other_kinds_among_the_nights(self):
        for thing in things.not_numbers() + things.far_numbers() + [3, 20]:
            for nights in ([thing], [0, thing], [thing, 1], [thing, thing]):
                for ask in (bound, gone_through):
                    with self.assertRaises(NoSuch):
                        ask(BOOK, {}, nights)

    def test_more_than_two(self):
        with self.assertRaises(NoSuch):
            gone_through(BOOK, {}, [0, 1, 2])
        self.assertEqual(bound(BOOK, {}, [0, 1, 2]), 27)

    def test_ahead_of_too_great(self):
        wishes = [Wish(name, "ann", "all", 10, 2, 0, 1, (0, 2)) for name in "abcdef"]
        book = Book(SKY, 180, 0, NIGHTS, {"ann": 1000}, wishes)
        for nights in ([0, 1, 2], [0, 0], [0, 3], [1, 0], (0,)):
            with self.assertRaises(NoSuch):
                gone_through(book, {}, nights)
