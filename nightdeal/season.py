"""Seasons: a book's nights gone through, dealt and dealt anew."""

from nightdeal.best import best
from nightdeal.errors import BadDeed
from nightdeal.fair import fair
from nightdeal.ledger import end_of, with_looks
from nightdeal.numbers import is_among

WAYS = ("best", "fair")


class Season:
    """A season: at a minute of the night that is on, with what was done and what is planned."""

    def __init__(self, book):
        self._book = book
        self._night = 0
        self._minute, _ = book.night(0)
        self._mark = None
        self._done = {}
        self._planned = []

    def book_now(self):
        """The book without what was given back."""
        return self._book

    def night(self):
        """The number of the night that is on; how many there are behind the last one."""
        return self._night

    def minute(self):
        """The minute that it is."""
        return self._minute

    def mark(self):
        """The name of the mark where the telescope stands, or None."""
        return self._mark

    def done(self):
        """What was done, names rising."""
        return with_looks(self._done, [])

    def planned(self):
        """The planned looks, in order."""
        return list(self._planned)

    def since(self):
        """From where the rest of the night is dealt: a minute, and the mark where the telescope stands then."""
        held = self._under_way()
        if not held:
            return (self._minute, self._mark)
        name, begin = held[0]
        return (end_of(self._book, name, begin), self._book.wish(name).target)

    def counted(self):
        """What was done, a look under way, too."""
        return with_looks(self._done, self._under_way())

    def over(self):
        """Whether all is over."""
        return self._night == self._book.count_nights()

    def deal(self, way):
        """Plan the rest of the night anew, by one of two ways; BadDeed."""
        self._need_night()
        if not isinstance(way, str) or way not in WAYS:
            raise BadDeed("there is no such way of dealing")
        self._planned = self._under_way() + self._dealt(way)

    def go(self, minute):
        """On to a minute of the night; BadDeed."""
        self._need_night()
        if not is_among(minute, self._minute, self._night_end()):
            raise BadDeed("there is no going on to this")
        self._go_on(minute)

    def cloud(self):
        """Lose all that is planned; BadDeed."""
        self._need_night()
        self._planned = []

    def close(self):
        """On to the night's end, and to the next night's begin where there is one; BadDeed."""
        self._need_night()
        # no planned look is left then: each ends by the night's end
        self._go_on(self._night_end())
        self._mark = None
        self._night += 1
        if not self.over():
            self._minute, _ = self._book.night(self._night)

    def drop(self, name):
        """Give a wish back, and lose what is planned of it; BadDeed, NoSuch."""
        self._need_night()
        self._book = self._book.without(name)
        # two looks of it may be planned: one under way, and one more behind it
        self._planned = [look for look in self._planned if look[0] != name]

    def _need_night(self):
        """Refuse a deed behind the last night."""
        if self.over():
            raise BadDeed("all is over")

    def _night_end(self):
        _, behind = self._book.night(self._night)
        return behind

    def _under_way(self):
        """A list of the look under way, if there is one."""
        return [look for look in self._planned if look[1] < self._minute]

    def _dealt(self, way):
        """The looks that a way tells of the rest of the night."""
        if way == "best":
            _, looks = best(self._book, self.counted(), self._night, self.since())
            return looks
        return fair(self._book, self.counted(), self._night, self.since())

    def _go_on(self, minute):
        """On to a minute: what is planned ends or begins ahead of it."""
        ended = [look for look in self._planned if end_of(self._book, look[0], look[1]) <= minute]
        for name, begin in self._planned:
            if begin < minute:
                self._mark = self._book.wish(name).target
        self._done = with_looks(self._done, ended)
        self._planned = self._planned[len(ended):]
        self._minute = minute
