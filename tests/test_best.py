"""Best nights: A2, A3, E1, E2 and nightdeal/best.py."""

import unittest

import plain_deals
import things
from nightdeal.best import best, reach
from nightdeal.book import Book
from nightdeal.errors import NoSuch
from nightdeal.marks import Mark
from nightdeal.rules import wrong
from nightdeal.sky import Sky
from nightdeal.wishes import Wish

SKY = Sky({"all": Mark(0, 0, 1, 1), "east": Mark(100, 20, 30, 100), "west": Mark(260, 0, 1, 1)}, [])
NIGHTS = [(100, 200), (500, 600), (700, 800)]
SHARES = {"ann": 50, "bob": 1000}
# turning takes 7 minutes between all and east, 10 between east and west, 7 between west and all
WISHES = [
    Wish("cup", "ann", "all", 30, 2, 0, 3, (0, 1)), Wish("bow", "bob", "east", 10, 2, 400, 4, (0, 1)),
    Wish("arc", "ann", "all", 25, 1, 0, 2, (0, 0)), Wish("eye", "bob", "west", 60, 1, 0, 5, (0, 1)),
]
BOOK = Book(SKY, 20, 2, NIGHTS, SHARES, WISHES)
EIGHT = "abcdefgh"


def eight_wishes(long, night, share, worths):
    """Eight wishes at one place, always high."""
    wishes = [Wish(name, "ann", "all", long, 1, 0, worth, (0, 0)) for name, worth in zip(EIGHT, worths)]
    return Book(Sky({"all": Mark(9, 0, 1, 1)}, []), 1, 30, [night], {"ann": share}, wishes)


def all_sets(names):
    """All rising tuples of the names."""
    return [tuple(name for at, name in enumerate(names) if part >> at & 1) for part in range(2 ** len(names))]


class ReachTest(unittest.TestCase):

    def test_a_night(self):
        # arc and cup have no share together; eye and arc or cup end with the night or behind it
        self.assertEqual(reach(BOOK, {}, 0), {
            (): 100, ("arc",): 125, ("bow",): 130, ("cup",): 130, ("eye",): 160, ("arc", "bow"): 142,
            ("bow", "cup"): 147, ("arc", "eye"): 192, ("cup", "eye"): 197, ("bow", "eye"): 200,
        })

    def test_with_shares_and_times_used_up(self):
        self.assertEqual(reach(BOOK, {"arc": [9], "eye": [9]}, 0), {(): 100, ("bow",): 130})
        self.assertEqual(reach(BOOK, {"arc": [9], "eye": [9], "bow": [1, 2]}, 0), {(): 100})
        # of a wish that the book hasn't, and of a name without looks, nothing
        self.assertEqual(reach(BOOK, {"gone": [1, 2], "arc": []}, 0), reach(BOOK, {}, 0))

    def test_apart_across_nights(self):
        self.assertEqual(reach(BOOK, {"bow": [129]}, 1)[("bow",)], 549)
        self.assertEqual(reach(BOOK, {"bow": [130]}, 1)[("bow",)], 550)
        self.assertNotIn(("bow",), reach(BOOK, {"bow": [131]}, 1))
        self.assertEqual(reach(BOOK, {"bow": [100]}, 1)[("bow",)], 530)

    def test_since(self):
        self.assertEqual(reach(BOOK, {}, 0, (170, None)), {(): 170, ("arc",): 195, ("cup",): 200})
        self.assertEqual(reach(BOOK, {}, 0, (170, "east")), {(): 170})
        self.assertEqual(reach(BOOK, {}, 0, (163, "east")), {(): 163, ("arc",): 195, ("cup",): 200})
        self.assertEqual(reach(BOOK, {}, 0, (164, "east")), {(): 164, ("arc",): 196})
        for minute in (200, 201, 9999):
            for mark in (None, "all"):
                self.assertEqual(reach(BOOK, {}, 0, (minute, mark)), {(): minute})

    def test_since_ahead_of_the_night(self):
        told = reach(BOOK, {}, 0)
        for since in (None, (100, None), (5, None), (100, "all"), (93, "all"), (0, "west")):
            self.assertEqual(reach(BOOK, {}, 0, since)[()], 100)
        self.assertEqual(reach(BOOK, {}, 0, (5, None)), told)
        self.assertEqual(reach(BOOK, {}, 0, (90, "west")), told)
        # turning on from 95 to west ends behind the night's begin
        self.assertEqual(reach(BOOK, {}, 0, (95, "all"))[("eye",)], 162)
        self.assertNotIn(("cup", "eye"), reach(BOOK, {}, 0, (97, "east")))

    def test_nothing_is_wanted(self):
        self.assertEqual(reach(BOOK, {}, 2), {(): 700})
        self.assertEqual(best(BOOK, {}, 2), (0, []))
        book = Book(SKY, 20, 2, NIGHTS, SHARES, [])
        self.assertEqual(reach(book, {}, 1, (550, "all")), {(): 550})
        self.assertEqual(best(book, {}, 1, (550, "all")), (0, []))

    def test_eight_wishes(self):
        book = eight_wishes(10, (0, 80), 80, range(1, 9))
        self.assertEqual(reach(book, {}, 0), {names: 10 * len(names) for names in all_sets(EIGHT)})
        short = eight_wishes(10, (0, 79), 80, range(1, 9))
        few = {names: 10 * len(names) for names in all_sets(EIGHT) if len(names) < 8}
        self.assertEqual(reach(short, {}, 0), few)
        poor = eight_wishes(10, (0, 80), 79, range(1, 9))
        self.assertEqual(reach(poor, {}, 0), few)

    def test_eight_wishes_at_many_small_windows(self):
        sky = Sky({"a": Mark(0, 0, 1, 2), "b": Mark(7, 1, 2, 4), "c": Mark(90, 0, 1, 2)}, [])
        targets = "abcabcab"
        wishes = [Wish(name, "ann", mark, 1, 1, 0, 1, (0, 0)) for name, mark in zip(EIGHT, targets)]
        book = Book(sky, 30, 1, [(0, 2000)], {"ann": 8}, wishes)
        self.assertEqual(len(reach(book, {}, 0)), 256)
        worth, looks = best(book, {}, 0)
        self.assertEqual((worth, len(looks), wrong(book, {}, 0, looks)), (8, 8, None))


class BestTest(unittest.TestCase):

    def test_a_night(self):
        self.assertEqual(best(BOOK, {}, 0), (9, [("bow", 120), ("eye", 140)]))
        self.assertEqual(best(BOOK, {"eye": [9]}, 0)[0], 7)
        self.assertEqual(best(BOOK, {}, 0, (121, "all")), (7, [("bow", 128), ("cup", 145)]))
        self.assertEqual(best(BOOK, {}, 0, (200, "all")), (0, []))

    def test_rather_few_of_great_worth(self):
        self.assertEqual(best(eight_wishes(10, (0, 35), 99, [1, 1, 9, 1, 8, 1, 7, 1]), {}, 0)[0], 24)
        sky = Sky({"all": Mark(0, 0, 1, 1)}, [])
        wishes = [Wish("long", "ann", "all", 50, 1, 0, 1000, (0, 0))]
        wishes.extend(Wish(name, "ann", "all", 10, 1, 0, 1, (0, 0)) for name in "abcde")
        book = Book(sky, 1, 0, [(0, 50)], {"ann": 500}, wishes)
        self.assertEqual(best(book, {}, 0), (1000, [("long", 0)]))

    def test_the_same_of_another_book_that_has_all_the_same(self):
        for told, done, since in plain_deals.books(21, 60, 40, 5):
            self.assertEqual(best(told.book(), done, 0, since), best(told.book(), dict(done), 0, since))

    def test_told_again_after_a_change_of_it(self):
        told = reach(BOOK, {}, 0)
        kept = dict(told)
        told[("arc",)] = 5
        del told[()]
        self.assertEqual(reach(BOOK, {}, 0), kept)
        worth, looks = best(BOOK, {}, 0)
        looks.append(("arc", 5))
        self.assertEqual(best(BOOK, {}, 0), (worth, looks[:-1]))

    def test_nothing_is_changed(self):
        done = {"bow": [100], "gone": [1], "arc": []}
        for since in (None, (120, "all")):
            reach(BOOK, done, 0, since)
            best(BOOK, done, 0, since)
        self.assertEqual(done, {"bow": [100], "gone": [1], "arc": []})

    def test_kinds(self):
        for names, end in reach(BOOK, {}, 0).items():
            self.assertIs(type(names), tuple)
            self.assertIs(type(end), int)
        told = best(BOOK, {}, 0)
        self.assertIs(type(told), tuple)
        self.assertIs(type(told[1]), list)
        self.assertEqual({type(look) for look in told[1]}, {tuple})

    def test_no_night(self):
        for thing in things.not_numbers() + things.far_numbers() + [3, 20]:
            for ask in (reach, best):
                with self.assertRaises(NoSuch):
                    ask(BOOK, {}, thing)
                with self.assertRaises(NoSuch):
                    ask(BOOK, {}, thing, (100, "all"))


class PlainTest(unittest.TestCase):

    def against(self, told, done, night, since, rows):
        book = told.book()
        self.assertEqual(reach(book, done, night, since), told.reach(rows, night, since))
        worth, looks = best(book, done, night, since)
        self.assertEqual(worth, max(told.worth(row) for row in rows))
        self.assertEqual(worth, told.worth(looks))
        self.assertIsNone(told.wrong(done, night, looks, since))
        self.assertIsNone(wrong(book, done, night, looks, since))
        for at, (name, begin) in enumerate(looks):
            self.assertEqual(begin, told.least_begin(done, night, looks[:at], name, since))
        return len(looks)

    def test_against_all_orders(self):
        sizes = []
        for told, done, since in plain_deals.books(7, 300, 60, 4):
            rows = list(told.rows(done, 0, since))
            sizes.append(self.against(told, done, 0, since, rows))
        self.assertGreater(min(sizes.count(size) for size in range(4)), 10)

    def test_of_a_later_night(self):
        for told, done, _ in plain_deals.books(8, 80, 40, 4, 3):
            for night in range(3):
                self.against(told, done, night, None, list(told.rows(done, night)))

    def test_against_all_rows_at_whatever_minutes(self):
        for told, done, since in plain_deals.books(9, 300, 9, 3):
            rows = list(told.all_rows(done, 0, since))
            self.assertEqual(reach(told.book(), done, 0, since), told.reach(rows, 0, since))
            self.assertEqual(best(told.book(), done, 0, since)[0], max(told.worth(row) for row in rows))
