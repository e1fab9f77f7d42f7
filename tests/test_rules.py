"""Rows of looks that may stand: A3, R1, R2 and nightdeal/rules.py."""

import random
import unittest

import plain_deals
import things
from nightdeal.book import Book
from nightdeal.errors import BadLook, NoSuch
from nightdeal.marks import Mark
from nightdeal.rules import wrong
from nightdeal.sky import Sky
from nightdeal.wishes import Wish

# east is seen from 120 up to 150, and so on, but in the first night's 222 the moon blinds it
SKY = Sky({"all": Mark(0, 0, 1, 1), "east": Mark(100, 20, 30, 100)}, [(Mark(100, 222, 1, 2000), 10)])
WISHES = [
    Wish("arc", "ann", "all", 20, 2, 15, 5, (0, 0)), Wish("bow", "bob", "east", 10, 2, 0, 1, (0, 1)),
    Wish("cup", "ann", "all", 30, 9, 0, 1, (0, 0)), Wish("dot", "bob", "all", 1, 1, 0, 1, (1, 1)),
    Wish("eye", "bob", "all", 5, 3, 100, 1, (0, 1)), Wish("fan", "cy", "all", 200, 1, 0, 1, (0, 0)),
]
NIGHTS = [(100, 300), (500, 600)]
# turning between the two marks takes 7 minutes
BOOK = Book(SKY, 20, 2, NIGHTS, {"ann": 50, "bob": 1000, "cy": 200}, WISHES)
# True stands for 1 where a plain comparison takes it so
NO_LOOKS = [
    ["arc", 100], ("arc",), (), ("arc", 100, 1), ("arc", True), ("arc", False), ("arc", -1), ("arc", "100"),
    ("arc", None), (100, "arc"), (None, 100), (b"arc", 100), (["arc"], 100), "ab", {"arc": 100}, None, 5,
    ("arc", (100,)), ("arc", -(10 ** 5000)), (True, 100), (("arc", 100),),
]


class WordTest(unittest.TestCase):

    def told(self, looks, done={}, night=0, since=None):
        return wrong(BOOK, done, night, looks, since)

    def word(self, name, begin, done={}, night=0, since=None):
        """The word of a single look."""
        told = self.told([(name, begin)], done, night, since)
        if told is not None:
            self.assertEqual(told[0], 0)
            return told[1]

    def test_an_empty_row(self):
        for since in (None, (0, None), (9999, "all"), (100, "east")):
            for night in (0, 1):
                self.assertIsNone(self.told([], {"arc": [1, 2, 3]}, night, since))

    def test_rows_that_may_stand(self):
        self.assertIsNone(self.told([("arc", 100)]))
        self.assertIsNone(self.told([("arc", 100), ("bow", 127), ("cup", 144), ("eye", 174)]))
        self.assertIsNone(self.told([("eye", 500), ("dot", 505)], {}, 1))

    def test_wish(self):
        for name in ("", "nobody", "ann", "all", "ARC", "arc ", "a@b", "a\nb", "x" * 100):
            self.assertEqual(self.word(name, 100), "wish")
        # of a wish that was given back, too
        self.assertEqual(wrong(BOOK.without("arc"), {"arc": [1]}, 0, [("arc", 100)]), (0, "wish"))

    def test_night(self):
        self.assertEqual(self.word("dot", 100), "night")
        self.assertEqual(self.word("arc", 500, {}, 1), "night")
        self.assertIsNone(self.word("bow", 520, {}, 1))

    def test_twice(self):
        self.assertEqual(self.told([("arc", 100), ("arc", 200)]), (1, "twice"))
        self.assertEqual(self.told([("eye", 100), ("arc", 105), ("eye", 280)]), (2, "twice"))

    def test_times(self):
        self.assertIsNone(self.word("arc", 100, {"arc": [5]}))
        self.assertEqual(self.word("arc", 100, {"arc": [5, 50]}), "times")
        self.assertEqual(self.word("bow", 120, {"bow": [5, 6, 7]}), "times")

    def test_dark_at_the_night_s_ends(self):
        self.assertIsNone(self.word("eye", 100))
        self.assertEqual(self.word("eye", 99), "dark")
        self.assertEqual(self.word("eye", 0), "dark")
        self.assertIsNone(self.word("eye", 295))
        self.assertEqual(self.word("eye", 296), "dark")
        self.assertEqual(self.word("eye", 300), "dark")
        self.assertEqual(self.word("eye", 500), "dark")
        self.assertEqual(self.word("eye", 10 ** 5000), "dark")

    def test_a_look_as_long_as_the_night(self):
        self.assertIsNone(self.word("fan", 100))
        self.assertEqual(self.word("fan", 99), "dark")
        self.assertEqual(self.word("fan", 101), "dark")

    def test_dark_by_since(self):
        self.assertIsNone(self.word("eye", 150, {}, 0, (150, None)))
        self.assertEqual(self.word("eye", 149, {}, 0, (150, None)), "dark")
        # ahead of the night's begin, which no look begins ahead of
        self.assertIsNone(self.word("eye", 100, {}, 0, (50, "all")))
        self.assertEqual(self.word("eye", 99, {}, 0, (50, "all")), "dark")
        for minute in (296, 300, 9999):
            self.assertEqual(self.word("eye", minute, {}, 0, (minute, None)), "dark")

    def test_low(self):
        for begin in (120, 121, 140):
            self.assertIsNone(self.word("bow", begin))
        for begin in (100, 110, 119, 141, 149, 150):
            self.assertEqual(self.word("bow", begin), "low")

    def test_low_across_a_window_s_end(self):
        # both ends stand in windows, 222 between them in none
        for begin in (220, 221):
            self.assertEqual(self.word("bow", begin), "low")
        self.assertEqual(self.word("bow", 222), "low")
        self.assertIsNone(self.word("bow", 223))
        self.assertIsNone(self.word("bow", 240))

    def test_apart(self):
        # done up to 100, and free from 115 on
        self.assertIsNone(self.word("arc", 115, {"arc": [80]}))
        self.assertEqual(self.word("arc", 114, {"arc": [80]}), "apart")
        # behind a look later than the night, too
        self.assertEqual(self.word("eye", 200, {"eye": [400]}), "apart")
        self.assertIsNone(self.word("eye", 205, {"eye": [5, 100]}))
        self.assertEqual(self.word("eye", 204, {"eye": [5, 100]}), "apart")
        self.assertIsNone(self.word("bow", 130, {"bow": [120]}))
        self.assertEqual(self.word("bow", 129, {"bow": [120]}), "apart")

    def test_turn_behind_the_look_ahead(self):
        self.assertIsNone(self.told([("arc", 100), ("bow", 127)]))
        self.assertEqual(self.told([("arc", 100), ("bow", 126)]), (1, "turn"))
        self.assertIsNone(self.told([("arc", 100), ("eye", 120)]))
        self.assertEqual(self.told([("arc", 100), ("eye", 119)]), (1, "turn"))
        # since's mark turns nothing but the first look
        self.assertIsNone(self.told([("arc", 107), ("eye", 127)], {}, 0, (100, "east")))

    def test_turn_behind_since(self):
        self.assertIsNone(self.word("bow", 127, {}, 0, (120, "all")))
        self.assertEqual(self.word("bow", 126, {}, 0, (120, "all")), "turn")
        self.assertIsNone(self.word("bow", 120, {}, 0, (120, "east")))
        self.assertIsNone(self.word("bow", 120, {}, 0, (120, None)))
        self.assertIsNone(self.word("bow", 120))

    def test_turn_ahead_of_the_night_s_begin(self):
        self.assertIsNone(self.word("arc", 100, {}, 0, (93, "east")))
        self.assertEqual(self.word("arc", 100, {}, 0, (94, "east")), "turn")
        self.assertIsNone(self.word("arc", 101, {}, 0, (94, "east")))
        self.assertIsNone(self.word("arc", 100, {}, 0, (0, "east")))

    def test_out_of_order(self):
        self.assertEqual(self.told([("eye", 200), ("arc", 150)]), (1, "turn"))
        self.assertEqual(self.told([("eye", 200), ("cup", 200)]), (1, "turn"))
        self.assertEqual(self.told([("eye", 100), ("cup", 250), ("bow", 120)]), (2, "turn"))

    def test_share_of_the_row(self):
        self.assertIsNone(self.told([("arc", 100), ("cup", 120)]))
        narrow = Book(SKY, 20, 2, NIGHTS, {"ann": 49, "bob": 5, "cy": 200}, [WISHES[0], WISHES[2], WISHES[4]])
        self.assertEqual(wrong(narrow, {}, 0, [("arc", 100), ("cup", 120)]), (1, "share"))
        self.assertEqual(wrong(narrow, {}, 0, [("cup", 100), ("eye", 130), ("arc", 135)]), (2, "share"))
        # the looks of other watchers ahead take nothing of it
        self.assertIsNone(wrong(narrow, {}, 0, [("cup", 100), ("eye", 130)]))

    def test_share_of_what_was_done(self):
        self.assertIsNone(self.word("arc", 100, {"cup": [0]}))
        self.assertEqual(self.word("arc", 100, {"cup": [0, 40]}), "share")
        self.assertEqual(self.told([("eye", 100), ("arc", 105), ("cup", 125)], {"arc": [0]}), (2, "share"))
        # of wishes that the book hasn't, and of other watchers' ones, nothing
        self.assertIsNone(wrong(BOOK.without("cup"), {"cup": [0, 40]}, 0, [("arc", 100)]))
        self.assertIsNone(self.word("arc", 100, {"eye": [0, 40], "gone": [5, 6, 7]}))

    def test_share_of_none(self):
        book = Book(SKY, 20, 2, NIGHTS, {"bob": 0}, [WISHES[4]])
        self.assertEqual(wrong(book, {}, 0, [("eye", 100)]), (0, "share"))

    def test_the_first_word_that_is_due(self):
        east = (99, "east")
        over = {"arc": [80, 90], "cup": [0, 40, 85]}
        # each row has all that the ones behind it have, and one more
        told = [
            (0, [("nobody", 99)], "wish"), (1, [("arc", 99)], "night"), (0, [("eye", 110), ("eye", 99)], "twice"),
            (0, [("arc", 99)], "times"), (0, [("cup", 99)], "dark"), (0, [("cup", 100)], "apart"),
        ]
        for night, looks, word in told:
            self.assertEqual(self.told(looks, over, night, east), (len(looks) - 1, word), word)
        self.assertEqual(self.told([("cup", 105)], {"cup": [0, 75]}, 0, east), (0, "turn"))
        self.assertEqual(self.told([("cup", 106)], {"cup": [0, 75]}, 0, east), (0, "share"))
        done = {"bow": [], "eye": [110]}
        self.assertEqual(self.told([("bow", 95)], done, 0, (100, "all")), (0, "dark"))
        self.assertEqual(self.told([("bow", 101)], done, 0, (100, "all")), (0, "low"))

    def test_low_ahead_of_the_others(self):
        book = Book(SKY, 20, 2, NIGHTS, {"ann": 0}, [Wish("low", "ann", "east", 10, 5, 50, 1, (0, 0))])
        done = {"low": [100]}
        self.assertEqual(wrong(book, done, 0, [("low", 119)], (118, "all")), (0, "low"))
        self.assertEqual(wrong(book, done, 0, [("low", 120)], (118, "all")), (0, "apart"))
        self.assertEqual(wrong(book, {}, 0, [("low", 120)], (118, "all")), (0, "turn"))
        self.assertEqual(wrong(book, {}, 0, [("low", 125)], (118, "all")), (0, "share"))

    def test_the_first_look_that_can_t(self):
        self.assertEqual(self.told([("nobody", 5), ("arc", 5)]), (0, "wish"))
        self.assertEqual(self.told([("arc", 100), ("dot", 130), ("nobody", 5)]), (1, "night"))
        self.assertEqual(self.told([("arc", 100), ("eye", 120), ("cup", 299)]), (2, "dark"))


class RefusalTest(unittest.TestCase):

    def test_no_night_ahead_of_no_looks(self):
        for thing in things.not_numbers() + things.far_numbers() + [2, 20]:
            for looks in ([], [("arc", 100)], [None], None, 5):
                with self.assertRaises(NoSuch):
                    wrong(BOOK, {}, thing, looks)
                with self.assertRaises(NoSuch):
                    wrong(BOOK, {}, thing, looks, (100, "all"))

    def test_no_list(self):
        for thing in things.not_of(list):
            with self.assertRaises(BadLook) as told:
                wrong(BOOK, {}, 0, thing)
            self.assertEqual(told.exception.at, 0)
        for thing in ((("arc", 100),), {("arc", 100): 1}, "arc@100", iter([("arc", 100)])):
            with self.assertRaises(BadLook) as told:
                wrong(BOOK, {}, 0, thing, None)
            self.assertEqual(told.exception.at, 0)

    def test_no_look(self):
        kinds = [thing for thing in things.all_kinds() if not isinstance(thing, tuple)] + [(1,), (2, 1), ("a", "a")]
        for ahead in ([], [("arc", 100)], [("nobody", 5), ("arc", 0), ("arc", 0)]):
            for thing in NO_LOOKS + kinds:
                for behind in ([], [None], [("arc", 100)]):
                    with self.assertRaises(BadLook) as told:
                        wrong(BOOK, {}, 0, ahead + [thing] + behind)
                    self.assertEqual(told.exception.at, len(ahead))

    def test_looks_of_any_text_from_0_on(self):
        for look in (("", 0), ("no name", 0), ("ARC", 10 ** 5000)):
            self.assertEqual(wrong(BOOK, {}, 0, [look]), (0, "wish"))


class PlainTest(unittest.TestCase):

    def test_against_the_words_minute_by_minute(self):
        rng = random.Random(5)
        found = {}
        for told, done, since in plain_deals.books(6, 150, 40, 4, 2):
            book = told.book()
            for night in (0, 1):
                for row in list(told.rows(done, night, since))[:4]:
                    for _ in range(12):
                        begin = rng.randrange(told.nights[night][0] - 1, told.nights[night][1] + 2)
                        looks = row + [(rng.choice(list(told.wishes) + ["none"]), max(0, begin))]
                        if rng.random() < 0.5:
                            rng.shuffle(looks)
                        wanted = told.wrong(done, night, looks, since)
                        self.assertEqual(wrong(book, done, night, looks, since), wanted)
                        found[wanted and wanted[1]] = found.get(wanted and wanted[1], 0) + 1
        words = (None, "wish", "night", "twice", "times", "dark", "low", "apart", "turn", "share")
        self.assertEqual(sorted(map(str, found)), sorted(map(str, words)))

    def test_nothing_is_changed(self):
        done = {"arc": [80], "cup": []}
        looks = [("arc", 115), ("bow", 223)]
        kept = list(looks)
        told = wrong(BOOK, done, 0, looks)
        self.assertEqual((looks, done), (kept, {"arc": [80], "cup": []}))
        self.assertEqual(wrong(BOOK, done, 0, looks), told)
