"""Seasons: A2, S1, S2 and nightdeal/season.py."""

import random
import unittest

import plain_deals
import plain_season
import things
from nightdeal.best import best
from nightdeal.book import Book
from nightdeal.errors import BadDeed, NoSuch
from nightdeal.fair import fair
from nightdeal.marks import Mark
from nightdeal.season import Season
from nightdeal.sky import Sky
from nightdeal.wishes import Wish
from plain_season import state

SKY = Sky({"all": Mark(0, 0, 1, 1), "east": Mark(100, 0, 1, 1)}, [])
NIGHTS = [(100, 200), (500, 600)]
# turning takes 7 minutes
WISHES = [
    Wish("cup", "ann", "all", 30, 2, 10, 3, (0, 1)), Wish("bow", "bob", "east", 20, 1, 0, 9, (0, 1)),
    Wish("arc", "ann", "all", 25, 1, 0, 2, (0, 0)),
]
BOOK = Book(SKY, 20, 2, NIGHTS, {"ann": 1000, "bob": 1000}, WISHES)


def a_wish(name, long, times, apart=0, worth=1, nights=(0, 1), mark="all"):
    return Wish(name, "ann", mark, long, times, apart, worth, nights)


def dealt(book=BOOK, way="fair", minute=None):
    """A season, dealt, and gone on to a minute."""
    season = Season(book)
    season.deal(way)
    if minute is not None:
        season.go(minute)
    return season


class BeginTest(unittest.TestCase):

    def test_at_first(self):
        self.assertEqual(state(Season(BOOK)), {
            "names": ["arc", "bow", "cup"], "night": 0, "minute": 100, "mark": None, "done": {}, "order": [],
            "planned": [], "since": (100, None), "counted": {}, "order counted": [], "over": False,
        })
        self.assertIs(type(Season(BOOK).since()), tuple)

    def test_deeds_tell_none(self):
        season = Season(BOOK)
        told = [season.deal("best"), season.deal("fair"), season.go(150), season.cloud(), season.drop("cup")]
        self.assertEqual(told + [season.close()], [None] * 6)


class DealTest(unittest.TestCase):

    def test_by_best_and_by_fair(self):
        self.assertEqual(dealt(BOOK, "best").planned(), best(BOOK, {}, 0)[1])
        self.assertEqual(dealt(BOOK, "fair").planned(), fair(BOOK, {}, 0))
        self.assertEqual(fair(BOOK, {}, 0), [("cup", 100), ("bow", 137), ("arc", 164)])
        # where the ways differ
        book = Book(SKY, 20, 2, NIGHTS, {"ann": 9999}, [
            a_wish("long", 90, 1, 0, 5), a_wish("one", 50, 1, 0, 4), a_wish("two", 50, 1, 0, 4),
        ])
        self.assertEqual(sorted(dealt(book, "best").planned()), [("one", 100), ("two", 150)])
        self.assertEqual(dealt(book, "fair").planned(), [("long", 100)])

    def test_anew(self):
        season = dealt()
        season.deal("best")
        season.deal("fair")
        self.assertEqual(season.planned(), [("cup", 100), ("bow", 137), ("arc", 164)])

    def test_with_a_look_under_way(self):
        for way, deal in (("best", lambda *told: best(*told)[1]), ("fair", fair)):
            season = dealt(BOOK, "fair", 101)
            season.deal(way)
            self.assertEqual(season.since(), (130, "all"))
            self.assertEqual(season.counted(), {"cup": [100]})
            self.assertEqual(season.done(), {})
            self.assertEqual(season.planned(), [("cup", 100)] + deal(BOOK, {"cup": [100]}, 0, (130, "all")))

    def test_from_now_and_where_the_telescope_stands(self):
        # between the looks it stands at the mark of the one that ended
        season = dealt(BOOK, "fair", 160)
        season.cloud()
        self.assertEqual((season.since(), season.done()), ((160, "east"), {"bow": [137], "cup": [100]}))
        season.deal("fair")
        self.assertEqual(season.planned(), [("cup", 167)])
        self.assertEqual(season.planned(), fair(BOOK, season.done(), 0, (160, "east")))

    def test_a_look_that_begins_now_is_not_under_way(self):
        season = dealt(BOOK, "fair", 100)
        self.assertEqual((season.since(), season.counted()), ((100, None), {}))
        season.deal("best")
        self.assertEqual(season.planned(), best(BOOK, {}, 0)[1])

    def test_a_wish_that_comes_again_behind_its_look_under_way(self):
        book = Book(SKY, 20, 2, NIGHTS, {"ann": 1000}, [a_wish("arc", 20, 3, 5, 1)])
        season = dealt(book, "best", 101)
        self.assertEqual(season.planned(), [("arc", 100)])
        season.deal("best")
        self.assertEqual(season.planned(), [("arc", 100), ("arc", 125)])
        self.assertEqual((season.done(), season.counted()), ({}, {"arc": [100]}))
        season.go(126)
        self.assertEqual((season.done(), season.counted()), ({"arc": [100]}, {"arc": [100, 125]}))
        season.deal("fair")
        self.assertEqual(season.planned(), [("arc", 125), ("arc", 150)])
        season.close()
        self.assertEqual(season.done(), {"arc": [100, 125, 150]})

    def test_counted_by_the_share(self):
        book = Book(SKY, 20, 2, NIGHTS, {"ann": 39}, [a_wish("arc", 20, 3), a_wish("bow", 20, 1)])
        season = dealt(book, "best", 101)
        self.assertEqual(len(season.planned()), 1)
        season.deal("best")
        self.assertEqual(season.planned(), [("arc", 100)])

    def test_ways_that_are_none(self):
        for thing in things.all_kinds() + ["Best", "best ", "", "worst", ["best"], ("fair",), b"best", "bestfair"]:
            for season in (Season(BOOK), dealt(BOOK, "fair", 120)):
                kept = state(season)
                with self.assertRaises(BadDeed):
                    season.deal(thing)
                self.assertEqual(state(season), kept)


class GoTest(unittest.TestCase):

    def test_step_by_step(self):
        season = dealt()
        told = [
            (100, None, [], (100, None)), (101, "all", [], (130, "all")), (129, "all", [], (130, "all")),
            (130, "all", ["cup"], (130, "all")), (137, "all", ["cup"], (137, "all")),
            (138, "east", ["cup"], (157, "east")), (157, "east", ["bow", "cup"], (157, "east")),
            (164, "east", ["bow", "cup"], (164, "east")), (165, "all", ["bow", "cup"], (189, "all")),
            (189, "all", ["arc", "bow", "cup"], (189, "all")), (200, "all", ["arc", "bow", "cup"], (200, "all")),
        ]
        for minute, mark, names, since in told:
            # to now, too
            for _ in range(2):
                season.go(minute)
                self.assertEqual((season.minute(), season.mark(), list(season.done())), (minute, mark, names))
                self.assertEqual(season.since(), since)
        self.assertEqual(season.done(), {"arc": [164], "bow": [137], "cup": [100]})
        self.assertEqual((season.planned(), season.night(), season.over()), ([], 0, False))

    def test_over_several_looks_at_once(self):
        season = dealt(BOOK, "fair", 165)
        self.assertEqual((season.mark(), season.done()), ("all", {"bow": [137], "cup": [100]}))
        self.assertEqual(season.planned(), [("arc", 164)])
        self.assertEqual(season.counted(), {"arc": [164], "bow": [137], "cup": [100]})
        season = dealt(BOOK, "fair", 164)
        self.assertEqual((season.mark(), season.planned()), ("east", [("arc", 164)]))

    def test_a_look_that_ends_with_the_night(self):
        book = Book(SKY, 20, 2, NIGHTS, {"ann": 1000}, [a_wish("arc", 100, 2)])
        season = dealt(book, "best", 199)
        self.assertEqual((season.done(), season.since()), ({}, (200, "all")))
        season.deal("best")
        self.assertEqual(season.planned(), [("arc", 100)])
        season.go(200)
        self.assertEqual((season.done(), season.planned(), season.since()), ({"arc": [100]}, [], (200, "all")))
        season.deal("best")
        self.assertEqual(season.planned(), [])

    def test_nothing_planned(self):
        season = Season(BOOK)
        season.go(150)
        self.assertEqual((season.since(), season.done()), ((150, None), {}))

    def test_minutes_that_are_none(self):
        season = dealt(BOOK, "fair", 120)
        kept = state(season)
        for thing in things.not_numbers() + things.far_numbers() + [119, 201, 0, 500, 550]:
            with self.assertRaises(BadDeed):
                season.go(thing)
            self.assertEqual(state(season), kept)
        # True is no minute even where 1 is one
        season = Season(Book(SKY, 20, 2, [(0, 5)], {"ann": 5}, []))
        for thing in (True, False):
            with self.assertRaises(BadDeed):
                season.go(thing)
        season.go(1)


class CloudTest(unittest.TestCase):

    def test_with_a_look_under_way(self):
        season = dealt(BOOK, "fair", 138)
        season.cloud()
        self.assertEqual((season.planned(), season.done(), season.counted()), ([], {"cup": [100]}, {"cup": [100]}))
        self.assertEqual((season.mark(), season.minute(), season.since()), ("east", 138, (138, "east")))
        season.deal("best")
        self.assertEqual(season.planned(), best(BOOK, {"cup": [100]}, 0, (138, "east"))[1])

    def test_without(self):
        for minute, mark in ((100, None), (130, "all"), (137, "all"), (157, "east")):
            season = dealt(BOOK, "fair", minute)
            done = season.done()
            season.cloud()
            self.assertEqual((season.planned(), season.done(), season.since()), ([], done, (minute, mark)))
        season = Season(BOOK)
        season.cloud()
        self.assertEqual(state(season), state(Season(BOOK)))


class CloseTest(unittest.TestCase):

    def test_a_night(self):
        season = dealt(BOOK, "fair", 138)
        season.close()
        self.assertEqual((season.night(), season.over(), season.since()), (1, False, (500, None)))
        self.assertEqual((season.planned(), season.mark(), season.minute()), ([], None, 500))
        self.assertEqual(season.done(), {"arc": [164], "bow": [137], "cup": [100]})
        season.deal("best")
        self.assertEqual(season.planned(), [("cup", 500)])

    def test_apart_from_a_look_of_the_night_ahead(self):
        book = Book(SKY, 20, 2, NIGHTS, {"ann": 1000}, [a_wish("arc", 20, 3, 400)])
        season = dealt(book, "best", 200)
        season.close()
        season.deal("fair")
        self.assertEqual(season.planned(), [("arc", 520)])

    def test_the_last_one(self):
        for minute in (None, 100, 138, 200):
            season = dealt(BOOK, "fair", minute)
            season.close()
            season.deal("fair")
            season.close()
            self.assertEqual((season.night(), season.over(), season.since()), (2, True, (600, None)))
            self.assertEqual((season.planned(), season.mark(), season.minute()), ([], None, 600))
            self.assertEqual(season.done(), {"arc": [164], "bow": [137], "cup": [100, 500]})
            self.assertEqual(season.counted(), season.done())
            self.assertEqual(season.book_now().names(), ["arc", "bow", "cup"])

    def test_nothing_planned(self):
        season = Season(BOOK)
        season.close()
        self.assertEqual((season.done(), season.minute()), ({}, 500))


class DropTest(unittest.TestCase):

    def test_planned(self):
        season = dealt()
        season.drop("bow")
        self.assertEqual(season.planned(), [("cup", 100), ("arc", 164)])
        self.assertEqual(season.book_now().names(), ["arc", "cup"])
        self.assertEqual((season.mark(), season.minute()), (None, 100))
        season.deal("fair")
        self.assertEqual(season.planned(), [("cup", 100), ("arc", 130)])

    def test_under_way(self):
        season = dealt(BOOK, "fair", 138)
        season.drop("bow")
        self.assertEqual((season.planned(), season.since()), ([("arc", 164)], (138, "east")))
        self.assertEqual((season.done(), season.counted()), ({"cup": [100]}, {"cup": [100]}))
        season.deal("best")
        self.assertEqual(season.planned(), best(BOOK.without("bow"), {"cup": [100]}, 0, (138, "east"))[1])

    def test_under_way_and_planned_once_more(self):
        book = Book(SKY, 20, 2, NIGHTS, {"ann": 1000}, [a_wish("arc", 20, 3), a_wish("bow", 10, 1)])
        season = dealt(book, "fair", 101)
        season.deal("fair")
        self.assertEqual(season.planned(), [("arc", 100), ("arc", 120), ("bow", 140)])
        season.drop("arc")
        self.assertEqual((season.planned(), season.since()), ([("bow", 140)], (101, "all")))

    def test_done_ahead(self):
        season = dealt(BOOK, "fair", 157)
        season.drop("cup")
        season.drop("bow")
        self.assertEqual(season.done(), {"bow": [137], "cup": [100]})
        self.assertEqual((season.planned(), season.mark()), ([("arc", 164)], "east"))
        season.close()
        self.assertEqual(list(season.done().items()), [("arc", [164]), ("bow", [137]), ("cup", [100])])

    def test_minutes_of_what_was_given_back_are_free_again(self):
        book = Book(SKY, 20, 2, NIGHTS, {"ann": 60}, [a_wish("arc", 40, 1), a_wish("bow", 30, 1, 0, 9)])
        season = dealt(book, "best", 130)
        self.assertEqual(season.done(), {"bow": [100]})
        season.deal("best")
        self.assertEqual(season.planned(), [])
        season.drop("bow")
        season.deal("best")
        self.assertEqual(season.planned(), [("arc", 130)])

    def test_not_planned(self):
        season = Season(BOOK)
        season.drop("cup")
        self.assertEqual((season.planned(), season.book_now().names()), ([], ["arc", "bow"]))
        self.assertEqual(BOOK.names(), ["arc", "bow", "cup"])

    def test_the_last_wish(self):
        season = dealt()
        for name in ("arc", "bow", "cup"):
            season.drop(name)
        season.deal("best")
        self.assertEqual((season.planned(), season.book_now().names()), ([], []))

    def test_no_such_wish(self):
        for season in (Season(BOOK), dealt(BOOK, "fair", 138)):
            kept = state(season)
            for thing in things.not_names() + ["a", "abc", "", "ann", "all", "gone", ["cup"]]:
                with self.assertRaises(NoSuch):
                    season.drop(thing)
                self.assertEqual(state(season), kept)
            season.drop("arc")
            with self.assertRaises(NoSuch):
                season.drop("arc")


class OverTest(unittest.TestCase):

    def test_each_deed_is_refused_ahead_of_all_else(self):
        season = dealt()
        season.close()
        season.close()
        kept = state(season)
        for thing in things.all_kinds() + ["best", "fair", "cup", 600, 601, 500]:
            for deed in (season.deal, season.go, season.drop):
                with self.assertRaises(BadDeed):
                    deed(thing)
        for deed in (season.cloud, season.close):
            with self.assertRaises(BadDeed):
                deed()
        self.assertEqual(state(season), kept)


class ToldTest(unittest.TestCase):

    def test_what_is_told_is_the_asker_s_own(self):
        season = dealt(BOOK, "fair", 138)
        kept = state(season)
        for table in (season.done(), season.counted()):
            table["cup"].append(5)
            table["gone"] = [1]
        for looks in (season.planned(), season.done()["cup"]):
            looks.append(("arc", 5))
            looks.pop(0)
        self.assertEqual(state(season), kept)
        told = season.done()
        season.close()
        self.assertEqual(told, {"cup": [100]})

    def test_two_seasons_of_one_book(self):
        one, other = dealt(), dealt()
        one.go(138)
        one.drop("cup")
        one.close()
        self.assertEqual(state(other), state(dealt()))
        self.assertEqual(BOOK.names(), ["arc", "bow", "cup"])


class PlainTest(unittest.TestCase):

    def test_against_a_plain_keeping(self):
        rng = random.Random(51)
        deeds = {}
        for told, _, _ in plain_deals.books(52, 250, 60, 5, 3):
            season, kept = Season(told.book()), plain_season.PlainSeason(told)
            self.assertEqual(state(season), kept.state())
            while not season.over():
                deed, given = plain_season.random_deed(rng, kept)
                key = (deed, len(kept.held()))
                deeds[key] = deeds.get(key, 0) + 1
                getattr(season, deed)(*given)
                getattr(kept, deed)(*given)
                self.assertEqual(state(season), kept.state())
        for deed in ("deal", "go", "cloud", "close", "drop"):
            for held in (0, 1):
                self.assertGreater(deeds.get((deed, held), 0), 5, (deed, held))
