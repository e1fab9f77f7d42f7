"""The whole: books and their texts, and seasons gone through to their ends."""

import random
import unittest

import plain_deals
import plain_season
from nightdeal.best import best, reach
from nightdeal.blocked import blocked, together
from nightdeal.bounds import bound, gone_through
from nightdeal.fair import fair, turn_order
from nightdeal.ledger import end_of, free_from, times_done, used
from nightdeal.rules import wrong
from nightdeal.season import Season
from nightdeal.texts import book_text, read_book


def answers(book, done, since, looks):
    """All that can be asked of a book with two nights behind what was done."""
    out = [turn_order(book, done), [used(book, done, watcher) for watcher in book.watchers()]]
    for name in book.names():
        out.append((times_done(done, name), free_from(book, done, name), end_of(book, name, 5)))
    for night in (0, 1):
        names = book.wanted(night)
        out.extend([reach(book, done, night, since), best(book, done, night, since), fair(book, done, night, since)])
        out.extend([together(book, done, night, names), blocked(book, done, night, names)])
        out.extend([wrong(book, done, night, row, since) for row in looks])
    for nights in ([0], [1], [0, 1]):
        out.extend([bound(book, done, nights), gone_through(book, done, nights)])
    return out


class TextTest(unittest.TestCase):

    def test_the_same_answers_of_a_book_read_again(self):
        rng = random.Random(71)
        for told, done, since in plain_deals.books(72, 60, 40, 4, 2):
            # wishes stand in the text by their names
            book = told.rising().book()
            looks = []
            for _ in range(6):
                begins = sorted(rng.sample(range(told.nights[0][0], told.nights[1][1]), 2))
                looks.append([(rng.choice("abcdefgh"), begin) for begin in begins])
            wanted = answers(book, done, since, looks)
            self.assertEqual(answers(read_book(book_text(book)), done, since, looks), wanted)
            self.assertEqual(answers(book, done, since, looks), wanted)

    def test_the_same_seasons_of_a_book_read_again(self):
        rng = random.Random(73)
        for told, _, _ in plain_deals.books(74, 40, 40, 4, 2):
            book = told.rising().book()
            one, other = Season(book), Season(read_book(book_text(book)))
            kept = plain_season.PlainSeason(told.rising())
            while not one.over():
                deed, given = plain_season.random_deed(rng, kept)
                for season in (one, other, kept):
                    getattr(season, deed)(*given)
                self.assertEqual(plain_season.state(one), plain_season.state(other))


class SeasonTest(unittest.TestCase):

    def gone(self, told, season, kept, rng):
        """A season to its end, each look held against the rules when it is done; how many there were."""
        many = 0
        last = None
        while not season.over():
            ahead, night, book = season.done(), season.night(), kept.told
            deed, given = plain_season.random_deed(rng, kept)
            getattr(season, deed)(*given)
            getattr(kept, deed)(*given)
            for look in kept.looks[many:]:
                # it stands in the night, behind the look ahead of it there
                self.assertIsNone(book.word(ahead, night, [], look, last))
                ahead = plain_deals.with_looks(ahead, [look])
                last = (book.end(look), book.wishes[look[0]].target)
                many += 1
            self.assertEqual({name: begins for name, begins in ahead.items() if begins}, season.done())
            if season.night() != night:
                last = None
        return many

    def test_each_look_that_was_done_may_stand(self):
        rng = random.Random(75)
        many = []
        for told, _, _ in plain_deals.books(76, 150, 60, 6, 3):
            many.append(self.gone(told, Season(told.book()), plain_season.PlainSeason(told), rng))
        self.assertGreater(sum(many), 150)
        self.assertGreater(max(many), 5)

    def test_what_a_season_brings_is_never_more_than_the_bound(self):
        for told, _, _ in plain_deals.books(77, 60, 40, 4, 3):
            book = told.book()
            for ways in (("best", "best", "best"), ("fair", "best", "fair")):
                season = Season(book)
                for way in ways:
                    season.deal(way)
                    season.close()
                worth = sum(book.wish(name).worth * len(begins) for name, begins in season.done().items())
                self.assertLessEqual(worth, bound(book, {}, [0, 1, 2]))
