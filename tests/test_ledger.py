"""What was done: A3, R2 and nightdeal/ledger.py."""

import unittest

import things
from nightdeal.book import Book
from nightdeal.errors import NoSuch
from nightdeal.ledger import end_of, free_from, times_done, used
from nightdeal.marks import Mark
from nightdeal.sky import Sky
from nightdeal.wishes import Wish

SKY = Sky({"all": Mark(0, 0, 1, 1)}, [])
# ann's wishes stand neither side by side nor by rising names
WISHES = [
    Wish("rings", "ann", "all", 60, 3, 30, 5, (0, 1)), Wish("moon", "bob", "all", 7, 9, 0, 1, (0, 0)),
    Wish("dust", "ann", "all", 10, 2, 10000, 1000, (1, 1)), Wish("arc", "ann", "all", 1, 1, 0, 1, (0, 1)),
]
BOOK = Book(SKY, 10, 1, [(0, 600), (1440, 2040)], {"ann": 300, "bob": 0, "cy": 9}, WISHES)


def fresh_done():
    return {"moon": [0, 7, 500], "rings": [100, 300], "dust": [1450], "arc": [], "gone": [1, 2]}


DONE = fresh_done()


class TimesDoneTest(unittest.TestCase):

    def test_looks_of_a_name(self):
        self.assertEqual([times_done(DONE, name) for name in ("moon", "rings", "dust")], [3, 2, 1])

    def test_a_name_of_no_wish(self):
        self.assertEqual(times_done(DONE, "gone"), 2)
        self.assertEqual(times_done(DONE, "lost"), 0)

    def test_none(self):
        self.assertEqual(times_done(DONE, "arc"), 0)
        self.assertEqual(times_done({}, "rings"), 0)
        self.assertEqual(times_done(DONE, ""), 0)

    def test_what_is_no_name(self):
        for thing in things.other_kinds() + things.far_numbers() + things.own_kinds() + [["moon"], ("moon",)]:
            self.assertEqual(times_done(DONE, thing), 0)


class EndTest(unittest.TestCase):

    def test_the_minute_behind_a_look(self):
        self.assertEqual(end_of(BOOK, "rings", 0), 60)
        self.assertEqual(end_of(BOOK, "moon", 500), 507)
        self.assertEqual(end_of(BOOK, "arc", 10 ** 6), 10 ** 6 + 1)

    def test_no_wish(self):
        for thing in things.not_names() + ["a", "abc", "gone", "ann", "all"]:
            with self.assertRaises(NoSuch):
                end_of(BOOK, thing, 0)


class FreeFromTest(unittest.TestCase):

    def test_none_done(self):
        for done in ({}, {"rings": []}, {"moon": [5]}):
            self.assertEqual(free_from(BOOK, done, "rings"), 0)

    def test_one_and_several_done(self):
        self.assertEqual(free_from(BOOK, {"rings": [100]}, "rings"), 190)
        self.assertEqual(free_from(BOOK, DONE, "rings"), 390)
        self.assertEqual(free_from(BOOK, {"rings": [0, 90, 300]}, "rings"), 390)
        self.assertEqual(free_from(BOOK, {"rings": [0]}, "rings"), 90)

    def test_apart_none_and_most(self):
        self.assertEqual(free_from(BOOK, DONE, "moon"), 507)
        self.assertEqual(free_from(BOOK, DONE, "dust"), 11460)

    def test_done_as_often_as_wanted(self):
        self.assertEqual(free_from(BOOK, {"arc": [9]}, "arc"), 10)

    def test_no_wish(self):
        for thing in things.not_names() + ["a", "abc", "gone", "ann", "all"]:
            for done in ({}, DONE):
                with self.assertRaises(NoSuch):
                    free_from(BOOK, done, thing)


class UsedTest(unittest.TestCase):

    def test_over_all_wishes_of_a_watcher(self):
        self.assertEqual(used(BOOK, DONE, "ann"), 2 * 60 + 10)
        self.assertEqual(used(BOOK, {"arc": [4], "rings": [100]}, "ann"), 61)
        self.assertEqual(used(BOOK, DONE, "bob"), 21)

    def test_none(self):
        self.assertEqual(used(BOOK, DONE, "cy"), 0)
        for watcher in ("ann", "bob", "cy"):
            self.assertEqual(used(BOOK, {}, watcher), 0)
            self.assertEqual(used(BOOK, {"gone": [1, 2, 3]}, watcher), 0)

    def test_without_wishes_that_the_book_has_not(self):
        book = BOOK.without("rings")
        self.assertEqual(used(book, DONE, "ann"), 10)
        self.assertEqual(used(book.without("dust"), DONE, "ann"), 0)
        self.assertEqual(used(book, DONE, "bob"), 21)
        self.assertEqual(used(book.without("moon"), DONE, "bob"), 0)

    def test_more_than_the_share(self):
        self.assertEqual(used(BOOK, {"rings": [0, 90, 180], "dust": [1450, 20000]}, "ann"), 200)
        self.assertEqual(used(BOOK, {"moon": [1] * 9}, "bob"), 63)

    def test_no_watcher(self):
        for thing in things.not_names() + ["a", "abc", "rings", "all"]:
            with self.assertRaises(NoSuch):
                used(BOOK, DONE, thing)


class HandedInTest(unittest.TestCase):

    def test_nothing_is_changed(self):
        done = fresh_done()
        for name in ("moon", "rings", "dust", "arc"):
            times_done(done, name)
            free_from(BOOK, done, name)
            end_of(BOOK, name, 5)
        for watcher in ("ann", "bob", "cy"):
            used(BOOK, done, watcher)
        self.assertEqual(done, fresh_done())
        self.assertEqual(list(done), list(fresh_done()))
