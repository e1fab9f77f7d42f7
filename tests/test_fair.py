"""Fair rows: A2, A3, F1, F2 and nightdeal/fair.py."""

import unittest

import plain_deals
import things
from nightdeal.book import Book
from nightdeal.errors import NoSuch
from nightdeal.fair import fair, turn_order
from nightdeal.marks import Mark
from nightdeal.rules import wrong
from nightdeal.sky import Sky
from nightdeal.wishes import Wish

SKY = Sky({"all": Mark(0, 0, 1, 1), "east": Mark(100, 20, 30, 100), "west": Mark(260, 0, 1, 1)}, [])
NIGHTS = [(100, 200), (500, 600), (700, 800)]
WISHES = [
    Wish("cup", "ann", "all", 30, 2, 0, 3, (0, 1)), Wish("bow", "bob", "east", 10, 2, 400, 4, (0, 1)),
    Wish("arc", "ann", "all", 25, 1, 0, 2, (0, 0)), Wish("eye", "bob", "west", 60, 1, 0, 5, (0, 1)),
]
BOOK = Book(SKY, 20, 2, NIGHTS, {"ann": 50, "bob": 1000}, WISHES)


def one_wish_each(shares, long=1):
    """A book in which each watcher has a wish of its own name, that takes a minute or so."""
    wishes = [Wish(name, name, "all", long, 9, 0, 1, (0, 2)) for name in shares]
    return Book(SKY, 20, 2, NIGHTS, shares, wishes)


def times(**told):
    """So many looks done of each name."""
    return {name: list(range(many)) for name, many in told.items()}


class TurnOrderTest(unittest.TestCase):

    def test_least_part_first(self):
        book = one_wish_each({"ann": 100, "bob": 10, "cy": 50})
        self.assertEqual(turn_order(book, times(ann=4, bob=1, cy=1)), ["cy", "ann", "bob"])
        self.assertEqual(turn_order(book, times(ann=9, cy=3)), ["bob", "cy", "ann"])

    def test_like_parts_by_names(self):
        book = one_wish_each({"cy": 30, "ann": 60, "bob": 90})
        self.assertEqual(turn_order(book, {}), ["ann", "bob", "cy"])
        self.assertEqual(turn_order(book, times(ann=2, bob=3, cy=1)), ["ann", "bob", "cy"])
        self.assertEqual(turn_order(book, times(ann=3, bob=3, cy=1)), ["bob", "cy", "ann"])

    def test_exact_parts(self):
        # 3 of 99999 is just more than 3 of 100000, both none if whole numbers alone are told
        book = one_wish_each({"ann": 99999, "bob": 100000, "cy": 99998})
        self.assertEqual(turn_order(book, times(ann=3, bob=3, cy=3)), ["bob", "ann", "cy"])
        self.assertEqual(turn_order(book, times(ann=2, bob=3, cy=2)), ["ann", "cy", "bob"])
        # 600 * 9 of 99999 and 600 * 9 of 100000: alike for a few figures behind the point
        book = one_wish_each({"ann": 99999, "bob": 100000}, 600)
        self.assertEqual(turn_order(book, times(ann=9, bob=9)), ["bob", "ann"])

    def test_like_parts_of_unlike_shares(self):
        book = one_wish_each({"dan": 7, "cy": 21, "bob": 49, "ann": 35})
        self.assertEqual(turn_order(book, times(dan=1, cy=3, bob=7, ann=5)), ["ann", "bob", "cy", "dan"])
        self.assertEqual(turn_order(book, times(dan=1, cy=3, bob=6, ann=5)), ["bob", "ann", "cy", "dan"])

    def test_shares_of_0_last(self):
        book = one_wish_each({"ann": 0, "bob": 1, "cy": 0, "dan": 100})
        self.assertEqual(turn_order(book, {}), ["bob", "dan", "ann", "cy"])
        self.assertEqual(turn_order(book, times(bob=9, ann=5, dan=9)), ["dan", "bob", "ann", "cy"])
        self.assertEqual(turn_order(one_wish_each({"cy": 0, "ann": 0}), times(ann=1)), ["ann", "cy"])

    def test_wishes_that_the_book_has_not(self):
        self.assertEqual(turn_order(BOOK, {"arc": [1]}), ["bob", "ann"])
        self.assertEqual(turn_order(BOOK.without("arc"), {"arc": [1]}), ["ann", "bob"])
        self.assertEqual(turn_order(BOOK, {"gone": [1, 2, 3]}), ["ann", "bob"])

    def test_watchers_without_wishes(self):
        book = Book(SKY, 20, 2, NIGHTS, {"zoe": 5, "ann": 50, "bob": 5}, WISHES[:1])
        self.assertEqual(turn_order(book, {"cup": [1]}), ["bob", "zoe", "ann"])

    def test_against_exact_parts(self):
        for told, done, _ in plain_deals.books(31, 200, 60, 5):
            self.assertEqual(turn_order(told.book(), done), told.turn_order(done))


class FairTest(unittest.TestCase):

    def test_a_night(self):
        # ann's greater worth, then bob's, who used nothing; then nobody's look ends within the night and its share
        self.assertEqual(fair(BOOK, {}, 0), [("cup", 100), ("eye", 137)])
        self.assertEqual(fair(BOOK, {"eye": [9]}, 0), [("cup", 100), ("bow", 137)])
        self.assertEqual(fair(BOOK, {"eye": [9], "cup": [0]}, 0), [("bow", 120)])

    def test_whose_turn_it_is(self):
        wishes = [Wish(name, name[0], "all", 10, 1, 0, 1, (0, 0)) for name in ("aa", "ab", "ac", "ba", "bb", "bc")]
        book = Book(SKY, 20, 2, NIGHTS, {"a": 30, "b": 60}, wishes)
        self.assertEqual(
            [name for name, _ in fair(book, {}, 0)], ["aa", "ba", "bb", "ab", "bc", "ac"],
        )
        # what was done counts
        self.assertEqual([name for name, _ in fair(book, {"aa": [0]}, 0)], ["ba", "bb", "ab", "bc", "ac"])
        # of a wish that the book hasn't, it doesn't
        self.assertEqual(
            [name for name, _ in fair(book.without("aa"), {"aa": [0]}, 0)], ["ab", "ba", "bb", "ac", "bc"],
        )

    def test_greatest_worth_then_least_name(self):
        wishes = [
            Wish(name, "ann", "all", 5, 1, 0, worth, (0, 0))
            for name, worth in (("d", 3), ("c", 7), ("b", 3), ("e", 7), ("a", 1))
        ]
        book = Book(SKY, 20, 2, NIGHTS, {"ann": 100}, wishes)
        self.assertEqual(fair(book, {}, 0), [("c", 100), ("e", 105), ("b", 110), ("d", 115), ("a", 120)])

    def test_who_can_t_is_passed_over(self):
        # bob's turn it is, but his looks can't stand any more
        self.assertEqual(fair(BOOK, {"cup": [0]}, 0, (150, "all")), [])
        self.assertEqual(fair(BOOK, {"arc": [0]}, 0, (150, "all")), [])
        book = Book(SKY, 20, 2, NIGHTS, {"ann": 100, "bob": 1000}, WISHES)
        self.assertEqual(fair(book, {"cup": [0]}, 0, (150, "all")), [("cup", 150)])
        self.assertEqual(fair(book, {"cup": [0]}, 0, (171, "all")), [("arc", 171)])

    def test_worth_does_not_wait(self):
        # the look of more worth is put first even where it can stand only late
        wishes = [
            Wish("late", "ann", "dusk", 10, 1, 0, 9, (0, 0)), Wish("soon", "ann", "all", 10, 1, 0, 8, (0, 0)),
        ]
        sky = Sky({"all": Mark(0, 0, 1, 1), "dusk": Mark(0, 80, 20, 1000)}, [])
        book = Book(sky, 20, 2, [(0, 100)], {"ann": 100}, wishes)
        self.assertEqual(fair(book, {}, 0), [("late", 80)])

    def test_since(self):
        self.assertEqual(fair(BOOK, {}, 0, (130, None)), [("cup", 130)])
        self.assertEqual(fair(BOOK, {"cup": [5, 50]}, 0, (130, "all")), [("eye", 137)])
        self.assertEqual(fair(BOOK, {"cup": [5, 50]}, 0, (95, "all")), [("eye", 102)])
        self.assertEqual(fair(BOOK, {}, 0, (95, None)), fair(BOOK, {}, 0))
        self.assertEqual(fair(BOOK, {}, 0, (0, "west")), fair(BOOK, {}, 0, None))
        self.assertEqual(fair(BOOK, {}, 0, (95, "east")), [("cup", 102), ("eye", 139)])
        for minute in (200, 201, 9999):
            self.assertEqual(fair(BOOK, {}, 0, (minute, "all")), [])

    def test_nothing_is_wanted(self):
        self.assertEqual(fair(BOOK, {}, 2), [])
        self.assertEqual(fair(Book(SKY, 20, 2, NIGHTS, {"ann": 1}, []), {}, 0), [])

    def test_against_the_words_minute_by_minute(self):
        sizes = []
        for told, done, since in plain_deals.books(32, 200, 50, 5, 2):
            book = told.book()
            for night in (0, 1):
                wanted = told.fair(done, night, since)
                self.assertEqual(fair(book, done, night, since), wanted)
                self.assertIsNone(wrong(book, done, night, wanted, since))
                sizes.append(len(wanted))
        self.assertGreater(min(sizes.count(size) for size in range(4)), 10)

    def test_no_night(self):
        for thing in things.not_numbers() + things.far_numbers() + [3, 20]:
            with self.assertRaises(NoSuch):
                fair(BOOK, {}, thing)
            with self.assertRaises(NoSuch):
                fair(BOOK, {}, thing, (100, "all"))

    def test_nothing_is_changed(self):
        done = {"cup": [5], "gone": [1, 2], "arc": []}
        told = fair(BOOK, done, 0)
        order = turn_order(BOOK, done)
        told.append(("arc", 5))
        order.append("cy")
        self.assertEqual(done, {"cup": [5], "gone": [1, 2], "arc": []})
        self.assertEqual(fair(BOOK, done, 0), told[:-1])
        self.assertEqual(turn_order(BOOK, done), order[:-1])
