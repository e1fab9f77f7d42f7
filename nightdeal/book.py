"""Books: a sky, a telescope, nights, the watchers' shares and their wishes."""

from nightdeal.errors import BadBook, NoSuch
from nightdeal.numbers import is_among
from nightdeal.sky import Sky
from nightdeal.stretches import are_stretches
from nightdeal.tables import is_table, named
from nightdeal.wishes import Wish

GREATEST_SPEED = 360
LONGEST_SETTLE = 30
MOST_NIGHTS = 20
LONGEST_NIGHT = 2000
MOST_WATCHERS = 6
GREATEST_SHARE = 100000
MOST_WISHES = 8


def is_telescope(speed, settle):
    """Whether these two, of any kind, are a telescope's."""
    return is_among(speed, 1, GREATEST_SPEED) and is_among(settle, 0, LONGEST_SETTLE)


def are_nights(thing):
    """Whether anything is a list of 1 to 20 stretches, none of them too long."""
    if not are_stretches(thing) or not 1 <= len(thing) <= MOST_NIGHTS:
        return False
    return all([behind - begin <= LONGEST_NIGHT for begin, behind in thing])


def are_shares(thing):
    """Whether anything is a dict from 1 to 6 watchers' names to minutes."""
    return is_table(thing, MOST_WATCHERS) and all([is_among(share, 0, GREATEST_SHARE) for share in thing.values()])


def is_wish_of(thing, sky, nights, shares):
    """Whether anything is a wish whose watcher, mark and last night are there."""
    if not isinstance(thing, Wish):
        return False
    return thing.watcher in shares and thing.target in sky.names() and thing.nights[1] < len(nights)


def are_wishes(thing, sky, nights, shares):
    """Whether anything is a list of at most 8 such wishes, with unlike names."""
    if not isinstance(thing, list) or len(thing) > MOST_WISHES:
        return False
    if not all([is_wish_of(wish, sky, nights, shares) for wish in thing]):
        return False
    return len({wish.name for wish in thing}) == len(thing)


class Book:
    """A book: what a telescope can do in its nights, and what its watchers wish for."""

    def __init__(self, sky, speed, settle, nights, shares, wishes):
        if not isinstance(sky, Sky):
            raise BadBook("this is no sky")
        if not is_telescope(speed, settle):
            raise BadBook("this is no telescope")
        if not are_nights(nights):
            raise BadBook("these are no nights")
        if not are_shares(shares):
            raise BadBook("these are no shares")
        if not are_wishes(wishes, sky, nights, shares):
            raise BadBook("these are no wishes")
        self._sky = sky
        self._speed = speed
        self._settle = settle
        self._nights = list(nights)
        self._shares = dict(shares)
        # in the order in which they were handed in
        self._wishes = {wish.name: wish for wish in wishes}

    @property
    def sky(self):
        """The sky that it has."""
        return self._sky

    @property
    def speed(self):
        """How far the telescope turns in a minute."""
        return self._speed

    @property
    def settle(self):
        """How many minutes the telescope settles behind a turning."""
        return self._settle

    def wish(self, name):
        """The wish of a name; NoSuch."""
        return named(self._wishes, name)

    def names(self):
        """The names of all wishes, rising."""
        return sorted(self._wishes)

    def count_nights(self):
        """How many nights there are."""
        return len(self._nights)

    def night(self, number):
        """The tuple (begin, behind) of a night; NoSuch."""
        if not is_among(number, 0, len(self._nights) - 1):
            raise NoSuch("there is no such night")
        return self._nights[number]

    def wanted(self, night):
        """The rising names of the wishes that may be looked at in a night; NoSuch."""
        # asked for nothing but the refusal
        self.night(night)
        out = []
        for name in self.names():
            first, last = self._wishes[name].nights
            if first <= night <= last:
                out.append(name)
        return out

    def windows(self, name, night):
        """The windows of a wish's mark within a night; NoSuch of the name, then of the night."""
        target = self.wish(name).target
        begin, behind = self.night(night)
        return self._sky.windows(target, begin, behind)

    def share(self, watcher):
        """A watcher's minutes; NoSuch."""
        return named(self._shares, watcher)

    def watchers(self):
        """The names of all watchers, rising."""
        return sorted(self._shares)

    def turning(self, one, other):
        """How long turning from a mark, or from none, to another one takes; NoSuch."""
        return self._sky.turning(one, other, self._speed, self._settle)

    def without(self, name):
        """A new book with all wishes but that one; NoSuch."""
        gone = self.wish(name)
        left = [wish for wish in self._wishes.values() if wish.name != gone.name]
        return Book(self._sky, self._speed, self._settle, self._nights, self._shares, left)
