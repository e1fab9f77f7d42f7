"""Books: A2, B2 and nightdeal/book.py."""

import unittest

import plain
import things
from nightdeal.errors import BadBook, NoSuch
from nightdeal.book import Book
from nightdeal.marks import Mark
from nightdeal.sky import Sky
from nightdeal.wishes import Wish

LAST = 10 ** 6
LETTERS = "abcdefghijklmnopqrstuvwxyz"
SKY = Sky(
    {"low": Mark(10, 40, 200, 900), "east": Mark(90, 0, 300, 310), "all": Mark(200, 0, 1, 1)},
    [(Mark(80, 15, 30, 100), 10)],
)
NIGHTS = [(0, 600), (1440, 2040), (3000, 5000)]
SHARES = {"bob": 0, "ann": 300, "cy": 100000}
# handed in neither by rising names nor by falling ones
WISHES = [
    Wish("m", "bob", "east", 30, 1, 0, 7, (1, 2)), Wish("c", "ann", "low", 60, 2, 30, 5, (0, 1)),
    Wish("z", "ann", "all", 600, 9, 10000, 1000, (0, 2)), Wish("a", "cy", "east", 1, 1, 0, 1, (2, 2)),
]
GOOD = (SKY, 14, 3, NIGHTS, SHARES, WISHES)


def fresh_parts():
    """Good parts with lists and dicts of their own."""
    return [SKY, 14, 3, list(NIGHTS), dict(SHARES), list(WISHES)]


def with_part(at, thing):
    parts = fresh_parts()
    parts[at] = thing
    return parts


def a_wish(name, watcher="ann", mark="all", nights=(0, 0)):
    return Wish(name, watcher, mark, 1, 1, 0, 1, nights)


def wanted_of(wishes):
    """All that a book with these wishes has to tell."""
    marks = {name: SKY.mark(name) for name in ("all", "east", "low")}
    turnings = []
    for one in (None, "all", "east", "low"):
        for other in ("all", "east", "low"):
            none = one is None or one == other
            told = 0 if none else plain.turning(marks[one].place, marks[other].place, 14, 3)
            turnings.append((one, other, told))
    by_name = sorted(wishes, key=lambda wish: wish.name)
    return {
        "wishes": [plain.all_of_wish(wish) for wish in by_name],
        "nights": NIGHTS,
        "wanted": [
            [wish.name for wish in by_name if number in range(wish.nights[0], wish.nights[1] + 1)]
            for number in range(3)
        ],
        "windows": [
            (wish.name, plain.windows(marks[wish.target], SKY.moons, begin, behind))
            for wish in by_name for begin, behind in NIGHTS
        ],
        "shares": [("ann", 300), ("bob", 0), ("cy", 100000)],
        "turnings": turnings,
    }


class ToldTest(unittest.TestCase):

    def test_all_that_is_told(self):
        self.assertEqual(plain.all_of(Book(*GOOD), SKY), wanted_of(WISHES))

    def test_some_of_it(self):
        book = Book(*GOOD)
        self.assertEqual(book.names(), ["a", "c", "m", "z"])
        self.assertEqual(book.watchers(), ["ann", "bob", "cy"])
        self.assertEqual([book.share(name) for name in ("ann", "bob", "cy")], [300, 0, 100000])
        self.assertEqual([book.wanted(number) for number in range(3)], [["c", "z"], ["c", "m", "z"], ["a", "m", "z"]])
        self.assertEqual([book.night(number) for number in range(3)], NIGHTS)
        self.assertEqual(book.windows("c", 0), [(40, 240)])
        self.assertEqual(book.windows("z", 1), [(1440, 2040)])
        self.assertEqual(book.turning("low", "east"), 9)
        self.assertEqual(book.turning("low", "low"), 0)
        self.assertEqual(book.turning(None, "low"), 0)

    def test_windows_of_a_wish_that_is_not_wanted_in_the_night(self):
        book = Book(*GOOD)
        for number in (0, 1):
            begin, behind = NIGHTS[number]
            self.assertNotIn("a", book.wanted(number))
            self.assertEqual(book.windows("a", number), SKY.windows("east", begin, behind))
            self.assertNotEqual(book.windows("a", number), [])

    def test_wishes_as_they_were_handed_in(self):
        book = Book(*GOOD)
        for wish in WISHES:
            self.assertIs(book.wish(wish.name), wish)

    def test_lists_and_dicts_in_another_order(self):
        told = plain.all_of(Book(*GOOD), SKY)
        for wishes in (WISHES[::-1], sorted(WISHES, key=lambda wish: wish.name)):
            for names in (["ann", "bob", "cy"], ["cy", "bob", "ann"]):
                shares = {name: SHARES[name] for name in names}
                book = Book(SKY, 14, 3, NIGHTS, shares, wishes)
                self.assertEqual(plain.all_of(book, SKY), told)

    def test_changed_behind(self):
        parts = fresh_parts()
        book = Book(*parts)
        nights, shares, wishes = parts[3:]
        told = plain.all_of(book, SKY)
        nights[0] = (5, 6)
        nights.append((9000, 9001))
        shares["ann"] = 1
        shares["dan"] = 5
        wishes[0] = a_wish("b")
        wishes.append(a_wish("q"))
        self.assertEqual(plain.all_of(book, SKY), told)
        for part in (nights, shares, wishes):
            part.clear()
        self.assertEqual(plain.all_of(book, SKY), told)
        self.assertEqual(told, wanted_of(WISHES))

    def test_what_is_handed_in_stays(self):
        parts = fresh_parts()
        book = Book(*parts)
        plain.all_of(book, SKY), book.without("m")
        self.assertEqual(parts, fresh_parts())
        self.assertEqual(list(parts[4]), list(SHARES))

    def test_what_is_told_is_the_asker_s_own(self):
        book = Book(*GOOD)
        told = plain.all_of(book, SKY)
        for ask in (
            book.names, book.watchers, lambda: book.wanted(0), lambda: book.wanted(2), lambda: book.windows("m", 1),
        ):
            mine = ask()
            self.assertIsInstance(mine, list)
            self.assertIsNot(ask(), mine)
            mine.append("more")
            mine.reverse()
            self.assertEqual(plain.all_of(book, SKY), told)

    def test_no_wish(self):
        book = Book(SKY, 1, 0, [(0, 1)], {"a": 0}, [])
        self.assertEqual(book.names(), [])
        self.assertEqual(book.wanted(0), [])


class WithoutTest(unittest.TestCase):

    def test_without_each_wish(self):
        book = Book(*GOOD)
        for gone in WISHES:
            other = book.without(gone.name)
            left = [wish for wish in WISHES if wish.name != gone.name]
            self.assertIsInstance(other, Book)
            self.assertIsNot(other, book)
            self.assertEqual(plain.all_of(other, SKY), wanted_of(left))
            for wish in left:
                self.assertIs(other.wish(wish.name), wish)
            with self.assertRaises(NoSuch):
                other.wish(gone.name)
            with self.assertRaises(NoSuch):
                other.without(gone.name)
            self.assertEqual(plain.all_of(book, SKY), wanted_of(WISHES))

    def test_without_all_of_them(self):
        book = Book(*GOOD)
        for name in ("z", "a", "m", "c"):
            book = book.without(name)
        self.assertEqual(plain.all_of(book, SKY), wanted_of([]))

    def test_no_such_wish(self):
        book = Book(SKY, 14, 3, NIGHTS, SHARES, WISHES[:2])
        for thing in things.all_kinds() + ["C", "z", "cc", ["c"], ("c",), b"c"]:
            with self.assertRaises(NoSuch):
                book.without(thing)
        self.assertEqual(book.names(), ["c", "m"])


class NoSuchTest(unittest.TestCase):

    def setUp(self):
        # no name here is one of things.all_kinds()
        self.book = Book(SKY, 14, 3, NIGHTS, {"bob": 0, "ann": 300}, WISHES[:2])
        self.bad_names = things.all_kinds() + ["C", "mm", "m ", "", ["m"], ("m",), {"m": 1}, b"m", "bob ", ["bob"]]
        self.bad_nights = things.not_numbers() + things.far_numbers() + [-1, -2, -3, 3, 4, 20, "0", [0], (0,)]

    def refused(self, ask, *told):
        with self.assertRaises(NoSuch):
            ask(*told)

    def test_names(self):
        for thing in self.bad_names:
            self.refused(self.book.wish, thing)
            self.refused(self.book.share, thing)

    def test_a_watcher_is_no_wish_and_a_wish_no_watcher(self):
        for name in ("bob", "ann", "east", "low"):
            self.refused(self.book.wish, name)
        for name in ("m", "c", "east", "low", "cy"):
            self.refused(self.book.share, name)

    def test_nights(self):
        for thing in self.bad_nights:
            self.refused(self.book.night, thing)
            self.refused(self.book.wanted, thing)

    def test_windows_of_name_and_night(self):
        for thing in self.bad_names:
            for night in (0, 2, 3, thing):
                self.refused(self.book.windows, thing, night)
        for thing in self.bad_nights:
            for name in ("m", "c", "none"):
                self.refused(self.book.windows, name, thing)

    def test_turning(self):
        for thing in self.bad_names + ["m", "bob"]:
            if thing is not None:
                self.refused(self.book.turning, thing, "east")
            for one in (None, "east", thing):
                self.refused(self.book.turning, one, thing)

    def test_true_is_no_night(self):
        self.assertEqual(self.book.night(1), NIGHTS[1])
        for ask in (self.book.night, self.book.wanted):
            self.refused(ask, True)
            self.refused(ask, False)
        self.refused(self.book.windows, "m", True)


class BadBookTest(unittest.TestCase):

    def taken(self, parts):
        return Book(*parts)

    def refused(self, parts):
        with self.assertRaises(BadBook):
            Book(*parts)

    def test_sky(self):
        for thing in things.not_of(Sky) + [{"low": Mark(0, 0, 1, 1)}, (SKY,), [SKY]]:
            self.refused(with_part(0, thing))

    def test_speed_and_settle(self):
        for at, least, most in ((1, 1, 360), (2, 0, 30)):
            for number in (least, least + 1, most - 1, most):
                self.taken(with_part(at, number))
            for thing in things.not_numbers() + things.far_numbers() + [least - 1, most + 1, str(least), [least]]:
                self.refused(with_part(at, thing))
        self.assertEqual(Book(*with_part(1, 360)).turning("low", "east"), 4)
        self.assertEqual(Book(*with_part(2, 30)).turning("low", "east"), 36)

    def with_nights(self, nights):
        return [SKY, 14, 3, nights, {"ann": 1}, []]

    def test_how_many_nights(self):
        for many in (1, 2, 19, 20):
            nights = [(10 * at, 10 * at + 9) for at in range(many)]
            book = self.taken(self.with_nights(nights))
            self.assertEqual([book.night(number) for number in range(many)], nights)
            with self.assertRaises(NoSuch):
                book.night(many)
        self.refused(self.with_nights([]))
        self.refused(self.with_nights([(10 * at, 10 * at + 9) for at in range(21)]))

    def test_nights_of_at_most_2000_minutes(self):
        for nights in ([(0, 2000)], [(0, 1), (2, 2002)], [(LAST - 2000, LAST)], [(0, 1)], [(0, 2000), (2001, 4001)]):
            self.taken(self.with_nights(nights))
        for nights in ([(0, 2001)], [(0, 1), (2, 2003)], [(0, LAST)], [(0, 2001), (3000, 3001)]):
            self.refused(self.with_nights(nights))

    def test_nights_that_are_no_stretches(self):
        for nights in (
            [(0, 5), (5, 9)], [(0, 5), (4, 9)], [(6, 9), (0, 5)], [(0, 5), (0, 5)], [(5, 5)], [(6, 5)], [(-1, 5)],
            [(LAST, LAST + 1)], [[0, 5]], [(0, 5, 9)], [(0,)], [()], [0, 5], (0, 5), ((0, 5),), {(0, 5): 1}, {(0, 5)},
            [(0, 5), None], [True], [(False, True)], [(0, True)],
        ):
            self.refused(self.with_nights(nights))

    def test_nights_of_any_kind(self):
        for thing in things.not_of(list) + [[], [[]], ["a"], [None], [1, 1], iter([(0, 5)])]:
            self.refused(self.with_nights(thing))
        for thing in things.not_of(tuple):
            self.refused(self.with_nights([thing]))
            self.refused(self.with_nights([(0, 5), thing]))
        for thing in things.not_numbers() + things.far_numbers():
            self.refused(self.with_nights([(thing, 5)]))
            self.refused(self.with_nights([(0, thing)]))

    def with_shares(self, shares):
        return [SKY, 14, 3, NIGHTS, shares, []]

    def test_how_many_watchers(self):
        for many in (1, 2, 5, 6):
            book = self.taken(self.with_shares({letter: 5 for letter in LETTERS[:many]}))
            self.assertEqual(book.watchers(), list(LETTERS[:many]))
        self.refused(self.with_shares({}))
        self.refused(self.with_shares({letter: 5 for letter in LETTERS[:7]}))

    def test_shares(self):
        for share in (0, 1, 99999, 100000):
            self.assertEqual(self.taken(self.with_shares({"ann": share})).share("ann"), share)
        for share in things.not_numbers() + things.far_numbers() + [-1, 100001, "5", [5]]:
            self.refused(self.with_shares({"ann": share}))
            self.refused(self.with_shares({"ann": 5, "bob": share}))
            self.refused(self.with_shares({"bob": share, "ann": 5}))

    def test_watchers_that_have_no_name(self):
        for name in ("", "A", "abcdefghi", "a b", "a1", None, 1, True, b"a", ("a",), (), Mark):
            self.refused(self.with_shares({name: 5}))
            self.refused(self.with_shares({"ann": 5, name: 5}))

    def test_shares_of_any_kind(self):
        for thing in things.not_of(dict) + [{1: 2}, ["ann"], [("ann", 5)], ("ann", 5), "ann", {"ann"}]:
            self.refused(self.with_shares(thing))

    def with_wishes(self, wishes):
        return with_part(5, wishes)

    def test_how_many_wishes(self):
        for many in range(9):
            book = self.taken(self.with_wishes([a_wish(letter) for letter in LETTERS[:many]]))
            self.assertEqual(book.names(), list(LETTERS[:many]))
        self.refused(self.with_wishes([a_wish(letter) for letter in LETTERS[:9]]))

    def test_two_wishes_of_one_name(self):
        self.refused(self.with_wishes([a_wish("a"), a_wish("a")]))
        self.refused(self.with_wishes([a_wish("a"), a_wish("b"), a_wish("a", "bob", "east")]))
        one = a_wish("a")
        self.refused(self.with_wishes([one, one]))

    def test_what_a_wish_is_for_must_be_there(self):
        good = a_wish("b")
        for bad in (
            a_wish("a", "dan"), a_wish("a", "east"), a_wish("a", "ann", "west"), a_wish("a", "ann", "ann"),
            a_wish("a", nights=(0, 3)), a_wish("a", nights=(3, 3)), a_wish("a", nights=(0, 19)),
            a_wish("a", nights=(19, 19)),
        ):
            self.refused(self.with_wishes([bad]))
            self.refused(self.with_wishes([good, bad]))
            self.refused(self.with_wishes([bad, good]))
        for nights in ((0, 2), (2, 2), (0, 0)):
            self.taken(self.with_wishes([good, a_wish("a", nights=nights)]))

    def test_wishes_of_any_kind(self):
        by_name = {wish.name: wish for wish in WISHES}
        for thing in things.not_of(list) + [tuple(WISHES), by_name, iter(WISHES), WISHES[0]]:
            self.refused(self.with_wishes(thing))
        for thing in things.not_of(Wish) + [plain.all_of_wish(WISHES[0])]:
            self.refused(self.with_wishes([thing]))
            self.refused(self.with_wishes([a_wish("a"), thing]))
            self.refused(self.with_wishes([thing, a_wish("a")]))

    def test_all_parts_of_any_kind(self):
        for thing in things.all_kinds():
            self.refused([thing] * 6)
        for one in range(6):
            for other in range(6):
                parts = with_part(one, None)
                parts[other] = 10 ** 9
                self.refused(parts)

    def test_what_is_refused_changes_nothing(self):
        for at in range(6):
            parts = fresh_parts()
            parts[at] = None
            kept = [part.copy() if isinstance(part, (list, dict)) else part for part in parts]
            self.refused(parts)
            self.assertEqual(parts, kept)
