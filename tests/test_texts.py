"""Books' texts: A2, B3, B4 and nightdeal/texts.py."""

import unittest

import plain
import things
from nightdeal.book import Book
from nightdeal.errors import BadText
from nightdeal.marks import Mark
from nightdeal.sky import Sky
from nightdeal.texts import book_text, read_book
from nightdeal.wishes import Wish

LETTERS = "abcdefghijklmnopqrstuvwxyz"
ROWS = [
    "telescope 14 3",
    "mark east 90 0 300 310",
    "mark low 10 40 200 900",
    "moon 80 15 30 100 10",
    "moon 8 0 1 1 0",
    "night 0 600",
    "night 1440 2040",
    "watcher ann 300",
    "watcher bob 0",
    "wish c ann low 60 2 30 5 0 1",
    "wish m bob east 30 1 0 7 1 1",
]
SMALL = ["telescope 1 0", "mark a 0 0 1 1", "night 0 1", "watcher a 0"]
WORDS = ["telescope", "mark", "moon", "night", "watcher", "wish"]
FORMS = {
    "telescope": "00", "mark": "a0000", "moon": "00000", "night": "00", "watcher": "a0", "wish": "aaa000000",
}


def rows_book():
    """The book of ROWS, put together from its parts, none of them in its rising order."""
    sky = Sky(
        {"low": Mark(10, 40, 200, 900), "east": Mark(90, 0, 300, 310)},
        [(Mark(80, 15, 30, 100), 10), (Mark(8, 0, 1, 1), 0)],
    )
    wishes = [Wish("m", "bob", "east", 30, 1, 0, 7, (1, 1)), Wish("c", "ann", "low", 60, 2, 30, 5, (0, 1))]
    return Book(sky, 14, 3, [(0, 600), (1440, 2040)], {"bob": 0, "ann": 300}, wishes)


def great_rows():
    """As many rows of each kind as there may be, with numbers at their bounds."""
    out = ["telescope 360 30"]
    out += [f"mark {letter} {359 - at} {2999 - at} {3000 - at} 3000" for at, letter in enumerate(LETTERS[:12])]
    out += ["moon 359 2999 3000 3000 180", "moon 0 0 1 1 0", "moon 180 5 7 10 90"]
    out += [f"night {2001 * at} {2001 * at + 2000}" for at in range(19)] + ["night 999999 1000000"]
    out += [f"watcher {letter * 8} {100000 - at}" for at, letter in enumerate(LETTERS[:6])]
    watchers = [letter * 8 for letter in LETTERS[:6]] + ["aaaaaaaa", "ffffffff"]
    out += [
        f"wish w{letter} {watcher} {letter} {600 - at} {9 - at} {10000 - at} {1000 - at} {19 - at} 19"
        for at, (letter, watcher) in enumerate(zip(LETTERS, watchers))
    ]
    return out


def replaced(rows, at, row):
    return rows[:at] + [row] + rows[at + 1:]


class RowsTest(unittest.TestCase):
    """What all the tests of rows go by."""

    def line_of(self, text):
        """The line that is refused, or "read" where none is."""
        try:
            read_book(text)
        except BadText as refusal:
            return refusal.line
        return "read"

    def taken(self, rows):
        text = "\n".join(rows)
        self.assertEqual(book_text(read_book(text)), text)

    def refused(self, rows, line):
        self.assertEqual(self.line_of("\n".join(rows)), line, rows)

    def spoilt(self, at, row):
        """A row that can't stand is told whatever stands behind it."""
        rows = replaced(ROWS, at, row)
        self.refused(rows, at)
        self.refused(rows[:at + 1], at)
        self.refused(rows[:at + 1] + ["", "nonsense"], at)


class BookTextTest(RowsTest):

    def test_to_the_letter(self):
        self.assertEqual(book_text(rows_book()), "\n".join(ROWS))

    def test_no_moon_and_no_wish(self):
        book = Book(Sky({"a": Mark(0, 0, 1, 1)}, []), 1, 0, [(0, 1)], {"a": 0}, [])
        self.assertEqual(book_text(book), "telescope 1 0\nmark a 0 0 1 1\nnight 0 1\nwatcher a 0")

    def test_moons_in_their_order(self):
        moons = [(Mark(5, 0, 1, 1), 2), (Mark(3, 0, 1, 1), 9), (Mark(4, 0, 1, 1), 0)]
        book = Book(Sky({"a": Mark(0, 0, 1, 1)}, moons), 1, 0, [(0, 1)], {"a": 0}, [])
        rows = ["moon 5 0 1 1 2", "moon 3 0 1 1 9", "moon 4 0 1 1 0"]
        self.assertEqual(book_text(book), "\n".join(SMALL[:2] + rows + SMALL[2:]))

    def test_names_rise(self):
        names = ["b", "ab", "a", "aa", "z"]
        marks = {name: Mark(at, 0, 1, 1) for at, name in enumerate(names)}
        shares = {name: at for at, name in enumerate(names)}
        wishes = [Wish(name, name, name, at + 1, 1, 0, 1, (0, 0)) for at, name in enumerate(names)]
        told = book_text(Book(Sky(marks, []), 1, 0, [(0, 1)], shares, wishes)).split("\n")
        rising = [("a", 2), ("aa", 3), ("ab", 1), ("b", 0), ("z", 4)]
        self.assertEqual(told[1:6], [f"mark {name} {at} 0 1 1" for name, at in rising])
        self.assertEqual(told[7:12], [f"watcher {name} {at}" for name, at in rising])
        self.assertEqual(told[12], "wish a a a 3 1 0 1 0 0")
        self.assertEqual([row.split(" ")[1] for row in told[12:]], ["a", "aa", "ab", "b", "z"])

    def test_the_same_when_asked_again(self):
        book = rows_book()
        self.assertEqual(book_text(book), book_text(book))
        self.assertEqual(plain.all_of(book, book.sky), plain.all_of(rows_book(), book.sky))

    def test_of_a_book_without_a_wish(self):
        self.assertEqual(book_text(rows_book().without("c")), "\n".join(ROWS[:9] + ROWS[10:]))


class ReadTest(RowsTest):

    def test_the_book_s_text_is_the_very_text_again(self):
        for rows in (ROWS, SMALL, great_rows(), ROWS[:3] + ROWS[5:], ROWS[:9], ROWS[:8]):
            self.taken(rows)

    def test_the_same_values(self):
        book, told = rows_book(), read_book("\n".join(ROWS))
        self.assertIsInstance(told, Book)
        self.assertEqual(plain.all_of(told, told.sky), plain.all_of(book, book.sky))
        self.assertEqual(
            [plain.all_of_mark(told.sky.mark(name)) for name in told.sky.names()],
            [plain.all_of_mark(book.sky.mark(name)) for name in book.sky.names()],
        )
        self.assertEqual(
            [(plain.all_of_mark(moon), reach) for moon, reach in told.sky.moons],
            [((80, 15, 30, 100), 10), ((8, 0, 1, 1), 0)],
        )

    def test_great_values(self):
        book = read_book("\n".join(great_rows()))
        self.assertEqual(len(book.sky.names()), 12)
        self.assertEqual(len(book.sky.moons), 3)
        self.assertEqual(book.night(19), (999999, 1000000))
        self.assertEqual(book.watchers(), [letter * 8 for letter in LETTERS[:6]])
        self.assertEqual(book.share("ffffffff"), 99995)
        self.assertEqual(book.names(), ["w" + letter for letter in LETTERS[:8]])
        self.assertEqual(
            plain.all_of_wish(book.wish("wh")), ("wh", "ffffffff", "h", 593, 2, 9993, 993, (12, 19)),
        )

    def test_each_reading_a_book_of_its_own(self):
        text = "\n".join(ROWS)
        one, other = read_book(text), read_book(text)
        self.assertIsNot(one, other)
        self.assertEqual(one.without("c").names(), ["m"])
        self.assertEqual(other.names(), ["c", "m"])


class NoTextTest(RowsTest):

    def test_what_is_no_text(self):
        for thing in things.not_of(str) + ["\n".join(ROWS).encode(), ROWS, tuple(ROWS), rows_book()]:
            with self.assertRaises(BadText) as caught:
                read_book(thing)
            self.assertIsNone(caught.exception.line)

    def test_texts_that_tell_nothing(self):
        for text in ("", " ", "\n", "a", "\n\n", "\n" + "\n".join(ROWS), " " + "\n".join(ROWS), "0", "None"):
            self.assertEqual(self.line_of(text), 0, repr(text))

    def test_other_line_ends_part_no_rows(self):
        for end in ("\r\n", "\r", "\x0b", "\x0c", "\x1c", "\x85", "\u2028", "\\n"):
            self.assertEqual(self.line_of(end.join(ROWS)), 0, repr(end))
            self.assertEqual(self.line_of("\n".join(ROWS[:8]) + end + "\n".join(ROWS[8:])), 7, repr(end))


class WordsTest(RowsTest):

    def test_another_first_word(self):
        for at, row in enumerate(ROWS):
            word, rest = row.split(" ", 1)
            for other in ("", "x", word + "s", word[:-1], word.upper(), word.title(), "0", word + "\t", "\u0430"):
                self.spoilt(at, f"{other} {rest}")
            self.spoilt(at, rest)
            self.spoilt(at, "")
            self.spoilt(at, word)

    def test_a_kind_of_row_that_may_not_stand_there(self):
        rows = {row.split(" ")[0]: row for row in ROWS}
        may = {
            0: ["telescope"], 1: ["mark"], 2: ["mark", "moon", "night"], 3: ["mark", "moon", "night"],
            4: ["moon", "night"], 5: ["moon", "night"], 6: ["night", "watcher"], 7: ["night", "watcher"],
            8: ["watcher", "wish"], 9: ["watcher", "wish"], 10: ["wish"],
        }
        for at, kinds in may.items():
            for kind in WORDS:
                if kind not in kinds:
                    self.spoilt(at, rows[kind])

    def test_a_word_more_or_less(self):
        for at, row in enumerate(ROWS):
            words = row.split(" ")
            for place in range(1, len(words)):
                self.spoilt(at, " ".join(words[:place] + words[place + 1:]))
                self.spoilt(at, " ".join(words[:place] + [words[place]] * 2 + words[place + 1:]))
            for more in (" 1", " a", " 0 0", " "):
                self.spoilt(at, row + more)

    def test_blanks(self):
        for at, row in enumerate(ROWS):
            self.spoilt(at, " " + row)
            self.spoilt(at, row + " ")
            self.spoilt(at, row.replace(" ", "\t"))
            for place, sign in enumerate(row):
                if sign == " ":
                    for other in ("  ", "\t", " \t", "", "\u00a0", ",", "_"):
                        self.spoilt(at, row[:place] + other + row[place + 1:])

    def test_numbers_not_written_by_figures(self):
        for at, row in enumerate(ROWS):
            words = row.split(" ")
            for place, kind in enumerate(FORMS[words[0]], 1):
                if kind == "0":
                    number = words[place]
                    for word in (
                        "", "0" + number, "00" + number, "+" + number, "-" + number, number + ".", number + ".0",
                        number + "_0", "0_" + number, "0x" + number, number + "e0", "a", "None", "True", "9" * 5000,
                        "10000000", "\u0661", "\u00b2", "\uff11", number + "\t", number + "\r", "-0", "-1", "1" * 8,
                    ):
                        self.spoilt(at, " ".join(replaced(words, place, word)))

    def test_names_that_are_none(self):
        for at, row in enumerate(ROWS):
            words = row.split(" ")
            for place, kind in enumerate(FORMS[words[0]], 1):
                if kind == "a":
                    for word in ("", "A", "zZ", "z1", "abcdefghi", "z_", "z\t", "0", "\u00e4", "\u0430", "z\r", "-"):
                        self.spoilt(at, " ".join(replaced(words, place, word)))


class BoundsTest(RowsTest):

    def check(self, at, row, bounds):
        """A number, by the braces in the row, at both of its bounds and one beyond each."""
        least, most = bounds
        for number in (least, most):
            self.taken(replaced(ROWS, at, row.format(number)))
        self.spoilt(at, row.format(most + 1))
        self.spoilt(at, row.format(least - 1))

    def test_telescope(self):
        self.check(0, "telescope {} 3", (1, 360))
        self.check(0, "telescope 14 {}", (0, 30))

    def test_mark(self):
        self.check(1, "mark east {} 0 300 310", (0, 359))
        self.check(1, "mark east 90 {} 300 310", (0, 309))
        self.check(1, "mark east 90 0 {} 310", (1, 310))
        self.check(1, "mark east 90 30 300 {}", (300, 3000))
        self.check(1, "mark east 90 309 1 {}", (310, 3000))
        self.spoilt(1, "mark east 90 0 0 0")

    def test_moon(self):
        self.check(3, "moon {} 15 30 100 10", (0, 359))
        self.check(3, "moon 80 {} 30 100 10", (0, 99))
        self.check(3, "moon 80 15 {} 100 10", (1, 100))
        self.check(3, "moon 80 15 30 {} 10", (30, 3000))
        self.check(3, "moon 80 15 30 100 {}", (0, 180))
        self.check(4, "moon 8 0 1 1 {}", (0, 180))
        self.spoilt(4, "moon 8 0 0 0 0")

    def test_night(self):
        self.check(5, "night {} 600", (0, 599))
        self.check(6, "night {} 2040", (601, 2039))
        self.check(6, "night 1440 {}", (1441, 3440))
        self.taken(replaced(ROWS, 6, "night 998000 1000000"))
        self.taken(replaced(ROWS, 6, "night 999999 1000000"))
        for row in (
            "night 999999 1000001", "night 1000000 1000001", "night 997999 1000000", "night 0 600", "night 600 700",
            "night 599 700", "night 601 601", "night 700 650",
        ):
            self.spoilt(6, row)
        self.spoilt(5, "night 0 2001")
        self.spoilt(5, "night 0 0")

    def test_a_night_that_is_too_late_for_the_next_one(self):
        # the row that can't stand is the one behind it
        for row in ("night 0 1440", "night 0 1500", "night 2040 2050"):
            self.refused(replaced(ROWS, 5, row), 6)

    def test_watcher(self):
        self.check(7, "watcher ann {}", (0, 100000))
        self.check(8, "watcher bob {}", (0, 100000))

    def test_wish(self):
        self.check(9, "wish c ann low {} 2 30 5 0 1", (1, 600))
        self.check(9, "wish c ann low 60 {} 30 5 0 1", (1, 9))
        self.check(9, "wish c ann low 60 2 {} 5 0 1", (0, 10000))
        self.check(9, "wish c ann low 60 2 30 {} 0 1", (1, 1000))
        self.check(9, "wish c ann low 60 2 30 5 {} 1", (0, 1))
        self.check(9, "wish c ann low 60 2 30 5 0 {}", (0, 1))
        self.check(10, "wish m bob east 30 1 0 7 1 {}", (1, 1))
        for nights in ("1 0", "2 2", "0 19", "19 19", "0 20"):
            self.spoilt(9, "wish c ann low 60 2 30 5 " + nights)


class NamesTest(RowsTest):

    def test_a_name_that_does_not_rise(self):
        for at, row, names in (
            (2, "mark {} 10 40 200 900", ("east", "a", "eass", "eas", "e", "easaz")),
            (8, "watcher {} 0", ("ann", "a", "anm", "an", "aaaaaaaa")),
            (10, "wish {} bob east 30 1 0 7 1 1", ("c", "b", "bz", "a", "bzzzzzzz")),
        ):
            for name in names:
                self.spoilt(at, row.format(name))

    def test_a_name_that_rises_a_little(self):
        self.taken(ROWS[:2] + ["mark easta 10 40 200 900"] + ROWS[2:])
        self.taken(ROWS[:8] + ["watcher anna 5", "watcher annb 5"] + ROWS[8:])
        self.taken(ROWS[:10] + ["wish ca ann low 60 2 30 5 0 1"] + ROWS[10:])

    def test_a_name_that_stands_twice_further_up(self):
        self.refused(ROWS[:3] + [ROWS[1]] + ROWS[3:], 3)
        self.refused(ROWS[:9] + [ROWS[7]] + ROWS[9:], 9)
        self.refused(ROWS + [ROWS[9]], 11)

    def test_a_name_between_two_further_up(self):
        self.refused(ROWS[:3] + ["mark f 0 0 1 1"] + ROWS[3:], 3)
        self.refused(ROWS[:9] + ["watcher annz 0"] + ROWS[9:], 9)
        self.refused(ROWS + ["wish d ann low 60 2 30 5 0 1"], 11)

    def test_one_name_of_unlike_kinds(self):
        self.taken(SMALL + ["wish a a a 1 1 0 1 0 0"])

    def test_what_a_wish_is_for_must_be_there(self):
        for row in (
            "wish c dan low 60 2 30 5 0 1", "wish c east low 60 2 30 5 0 1", "wish c low low 60 2 30 5 0 1",
            "wish c ann west 60 2 30 5 0 1", "wish c ann ann 60 2 30 5 0 1", "wish c ann c 60 2 30 5 0 1",
            "wish c ann low 60 2 30 5 0 2", "wish c ann low 60 2 30 5 2 2",
        ):
            self.spoilt(9, row)
        self.spoilt(10, "wish m cy east 30 1 0 7 1 1")
        self.spoilt(10, "wish m bob lo 30 1 0 7 1 1")
        self.spoilt(10, "wish m bob east 30 1 0 7 1 2")


class OrderTest(RowsTest):

    def test_one_row_more_of_a_kind_than_there_may_be(self):
        rows = great_rows()
        more = {
            "telescope": "telescope 1 0", "mark": "mark zz 0 0 1 1", "moon": "moon 0 0 1 1 0",
            "watcher": "watcher zz 0", "wish": "wish zz aaaaaaaa a 1 1 0 1 0 0",
        }
        for word, row in more.items():
            behind = 1 + max(at for at, other in enumerate(rows) if other.startswith(word + " "))
            self.refused(rows[:behind] + [row] + rows[behind:], behind)
            self.refused(rows[:behind] + [row], behind)

    def test_one_night_more(self):
        rows = ["night {} {}".format(10 * at, 10 * at + 5) for at in range(21)]
        self.taken(SMALL[:2] + rows[:20] + SMALL[3:])
        self.refused(SMALL[:2] + rows + SMALL[3:], 22)

    def test_rows_of_two_kinds_exchanged(self):
        for at, line in ((0, 0), (2, 3), (4, 5), (6, 7), (8, 9)):
            rows = list(ROWS)
            rows[at], rows[at + 1] = rows[at + 1], rows[at]
            self.refused(rows, line)

    def test_rows_of_one_kind_exchanged(self):
        for at, line in ((1, 2), (5, 6), (7, 8), (9, 10)):
            rows = list(ROWS)
            rows[at], rows[at + 1] = rows[at + 1], rows[at]
            self.refused(rows, line)
        self.taken(ROWS[:3] + [ROWS[4], ROWS[3]] + ROWS[5:])

    def test_a_kind_that_lacks(self):
        for word, line in (("telescope", 0), ("mark", 1), ("night", 5), ("watcher", 7)):
            self.refused([row for row in ROWS if not row.startswith(word + " ")], line)
        for word in ("moon", "wish"):
            self.taken([row for row in ROWS if not row.startswith(word + " ")])

    def test_a_row_that_lacks_at_the_end(self):
        for many in range(1, 8):
            self.refused(ROWS[:many], many)
        self.refused(ROWS[:3] + ROWS[5:7], 5)
        self.refused(SMALL[:3], 3)
        for many in (8, 9, 10, 11):
            self.taken(ROWS[:many])

    def test_a_line_feed_at_the_end(self):
        for many in range(1, 12):
            self.refused(ROWS[:many] + [""], many)
            self.refused(ROWS[:many] + ["", ""], many)
        self.refused(SMALL + [""], 4)

    def test_an_empty_row_between(self):
        for at in range(11):
            self.refused(ROWS[:at] + [""] + ROWS[at:], at)

    def test_the_first_of_several_rows(self):
        for one in range(11):
            for other in range(one + 1, 11):
                self.refused(replaced(replaced(ROWS, one, "x"), other, "x"), one)
