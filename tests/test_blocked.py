"""What can't be done together: E1 and nightdeal/blocked.py."""

import itertools
import unittest

import plain_deals
import things
from nightdeal.blocked import blocked, together
from nightdeal.book import Book
from nightdeal.errors import NoSuch
from nightdeal.marks import Mark
from nightdeal.sky import Sky
from nightdeal.wishes import Wish

SKY = Sky({"all": Mark(0, 0, 1, 1), "dusk": Mark(0, 0, 20, 1000)}, [])
NIGHTS = [(0, 100), (200, 300), (400, 500)]
# dusk is a minute too short for both arc and bow, the first night for bow beside the other three
WISHES = [
    Wish("fan", "ann", "all", 1, 1, 0, 1, (1, 2)), Wish("bow", "ann", "dusk", 11, 1, 0, 1, (0, 0)),
    Wish("arc", "ann", "dusk", 10, 1, 0, 1, (0, 0)), Wish("eye", "bob", "all", 40, 2, 0, 1, (0, 1)),
    Wish("cup", "bob", "all", 40, 1, 0, 1, (0, 1)), Wish("dot", "ann", "all", 10, 1, 0, 1, (0, 0)),
]
BOOK = Book(SKY, 10, 0, NIGHTS, {"ann": 1000, "bob": 1000}, WISHES)
FIRST = ["arc", "bow", "cup", "dot", "eye"]


class TogetherTest(unittest.TestCase):

    def test_names(self):
        self.assertIs(together(BOOK, {}, 0, ["arc", "cup", "dot"]), True)
        self.assertIs(together(BOOK, {}, 0, ["cup", "eye", "bow"]), True)
        self.assertIs(together(BOOK, {}, 0, ["arc", "bow"]), False)
        self.assertIs(together(BOOK, {}, 0, ["eye", "dot", "cup", "bow"]), False)
        self.assertIs(together(BOOK, {}, 0, ["eye", "dot", "cup", "arc"]), True)

    def test_in_any_order(self):
        for names in itertools.permutations(["cup", "dot", "arc"]):
            self.assertIs(together(BOOK, {}, 0, list(names)), True)
        for names in itertools.permutations(["cup", "bow", "arc"]):
            self.assertIs(together(BOOK, {}, 0, list(names)), False)
            self.assertEqual(blocked(BOOK, {}, 0, list(names)), ["arc", "bow"])

    def test_none(self):
        for night in (0, 1, 2):
            self.assertIs(together(BOOK, {"eye": [1, 2, 3]}, night, []), True)
            self.assertIsNone(blocked(BOOK, {"eye": [1, 2, 3]}, night, []))

    def test_what_was_done(self):
        self.assertIs(together(BOOK, {"eye": [0]}, 1, ["eye", "cup"]), True)
        self.assertIs(together(BOOK, {"eye": [0, 50]}, 1, ["eye", "cup"]), False)
        self.assertIs(together(BOOK, {"eye": [260]}, 1, ["eye"]), False)
        self.assertIs(together(BOOK, {"eye": [220]}, 1, ["eye"]), True)


class BlockedTest(unittest.TestCase):

    def test_none_where_all_can(self):
        self.assertIsNone(blocked(BOOK, {}, 0, ["dot", "arc", "cup"]))
        self.assertIsNone(blocked(BOOK, {}, 1, ["fan", "eye", "cup"]))

    def test_as_few_as_can_t(self):
        self.assertEqual(blocked(BOOK, {}, 0, FIRST), ["arc", "bow"])
        self.assertEqual(blocked(BOOK, {}, 0, FIRST[::-1]), ["arc", "bow"])
        self.assertEqual(blocked(BOOK, {}, 0, ["eye", "dot", "cup", "bow"]), ["bow", "cup", "dot", "eye"])
        self.assertEqual(blocked(BOOK, {"dot": [3]}, 0, FIRST), ["dot"])
        self.assertEqual(blocked(BOOK, {"dot": [3], "cup": [3]}, 0, ["eye", "dot", "cup"]), ["cup"])

    def test_of_several_the_least(self):
        # any two of these can be done, no three of them
        sky = Sky({"all": Mark(0, 0, 1, 1)}, [])
        wishes = [Wish(name, "ann", "all", 40, 1, 0, 1, (0, 0)) for name in ("d", "b", "c", "ab", "a")]
        book = Book(sky, 10, 0, [(0, 100)], {"ann": 1000}, wishes)
        self.assertEqual(blocked(book, {}, 0, ["d", "c", "b", "ab", "a"]), ["a", "ab", "b"])
        self.assertEqual(blocked(book, {}, 0, ["d", "c", "b", "a"]), ["a", "b", "c"])
        self.assertEqual(blocked(book, {}, 0, ["d", "c", "b"]), ["b", "c", "d"])
        self.assertIsNone(blocked(book, {}, 0, ["d", "b"]))

    def test_one_alone_by_its_share(self):
        book = Book(SKY, 10, 0, NIGHTS, {"ann": 10, "bob": 79}, WISHES)
        self.assertEqual(blocked(book, {}, 0, FIRST), ["bow"])
        self.assertEqual(blocked(book, {}, 0, ["arc", "dot", "eye", "cup"]), ["arc", "dot"])
        self.assertEqual(blocked(book, {}, 0, ["arc", "eye", "cup"]), ["cup", "eye"])

    def test_eight_names(self):
        wishes = [Wish(name, "ann", "all", 10, 1, 0, 1, (0, 0)) for name in "hgfedcba"]
        book = Book(SKY, 10, 0, [(0, 80)], {"ann": 80}, wishes)
        self.assertIsNone(blocked(book, {}, 0, list("hgfedcba")))
        short = Book(SKY, 10, 0, [(0, 79)], {"ann": 80}, wishes)
        self.assertEqual(blocked(short, {}, 0, list("hgfedcba")), list("abcdefgh"))


class PlainTest(unittest.TestCase):

    def test_against_all_orders(self):
        sizes = []
        for told, done, _ in plain_deals.books(11, 200, 50, 5, 2):
            book = told.book()
            for night in (0, 1):
                reached = told.reach(list(told.rows(done, night)), night)
                wanted = told.wanted(night)
                for names in [wanted, wanted[::-1], wanted[:3], wanted[1:]]:
                    self.assertEqual(together(book, done, night, names), tuple(sorted(names)) in reached)
                    least = told.blocked(reached, names)
                    self.assertEqual(blocked(book, done, night, names), least)
                    sizes.append(0 if least is None else len(least))
        self.assertGreater(min(sizes.count(size) for size in range(4)), 5)


class RefusalTest(unittest.TestCase):

    def refused(self, night, names):
        for ask in (together, blocked):
            with self.assertRaises(NoSuch):
                ask(BOOK, {}, night, names)

    def test_no_night(self):
        for thing in things.not_numbers() + things.far_numbers() + [3, 20]:
            for names in ([], ["arc"], ["nobody"], None):
                self.refused(thing, names)

    def test_no_list(self):
        for thing in things.not_of(list) + [("arc",), {"arc": 1}, "arc", {"arc"}]:
            self.refused(0, thing)

    def test_no_unlike_names_that_are_wanted(self):
        for names in (
            ["arc", "arc"], ["arc", "bow", "arc"], ["nobody"], ["arc", "nobody"], ["fan"], ["arc", "fan"], [""],
            ["ann"], ["all"], [["arc"]], [("arc",)], [b"arc"], [["arc"], ["arc"]], list("arc"),
        ):
            self.refused(0, names)
        self.refused(1, ["arc"])
        self.refused(2, ["eye"])

    def test_other_kinds_among_the_names(self):
        for thing in things.not_names() + ["a", "abc"]:
            self.refused(0, [thing])
            self.refused(0, ["arc", thing])
            self.refused(0, [thing, thing])

    def test_what_was_done_as_often_as_wanted_is_wanted_still(self):
        self.assertIs(together(BOOK, {"arc": [5]}, 0, ["arc"]), False)
        self.assertEqual(blocked(BOOK, {"arc": [5]}, 0, ["arc"]), ["arc"])

    def test_nothing_is_changed(self):
        names = ["eye", "dot", "cup", "bow"]
        done = {"fan": [1]}
        told = blocked(BOOK, done, 0, names)
        told.append("arc")
        together(BOOK, done, 0, names)
        self.assertEqual((names, done), (["eye", "dot", "cup", "bow"], {"fan": [1]}))
        self.assertEqual(blocked(BOOK, done, 0, names), told[:-1])
