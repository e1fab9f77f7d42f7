"""Wishes for looks at marks."""

from nightdeal.errors import BadWish
from nightdeal.numbers import is_among, is_name

LONGEST_LOOK = 600
MOST_TIMES = 9
FARTHEST_APART = 10000
MOST_WORTH = 1000
LAST_NIGHT = 19


def are_wished_nights(thing):
    """Whether anything is a tuple of a first and a last night."""
    if not isinstance(thing, tuple) or len(thing) != 2:
        return False
    first, last = thing
    return is_among(first, 0, LAST_NIGHT) and is_among(last, first, LAST_NIGHT)


class Wish:
    """A wish: whose it is, for what looks, and what they are worth."""

    def __init__(self, name, watcher, mark, long, times, apart, worth, nights):
        if not (is_name(name) and is_name(watcher) and is_name(mark)):
            raise BadWish("a wish has three names")
        if not is_among(long, 1, LONGEST_LOOK):
            raise BadWish("no look lasts so long")
        if not is_among(times, 1, MOST_TIMES):
            raise BadWish("no look is wanted so often")
        if not is_among(apart, 0, FARTHEST_APART):
            raise BadWish("no looks lie so far apart")
        if not is_among(worth, 1, MOST_WORTH):
            raise BadWish("no look is worth so much")
        if not are_wished_nights(nights):
            raise BadWish("these are no first and last night")
        self._name = name
        self._watcher = watcher
        self._target = mark
        self._long = long
        self._times = times
        self._apart = apart
        self._worth = worth
        self._nights = nights

    # only read: a book keeps its wishes as they are, so none may change behind it

    @property
    def name(self):
        """Its name."""
        return self._name

    @property
    def watcher(self):
        """The name of the watcher whose it is."""
        return self._watcher

    @property
    def target(self):
        """The name of the mark that it is for."""
        return self._target

    @property
    def long(self):
        """How many minutes a look lasts."""
        return self._long

    @property
    def times(self):
        """How often it is wanted."""
        return self._times

    @property
    def apart(self):
        """How many minutes lie at least between two looks."""
        return self._apart

    @property
    def worth(self):
        """What a look is worth."""
        return self._worth

    @property
    def nights(self):
        """The first and the last night in which it may be looked at."""
        return self._nights
