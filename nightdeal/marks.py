"""Marks: places of the sky that stand high by turns that come again."""

from nightdeal.errors import BadMark
from nightdeal.numbers import is_among

ROUND = 360
LONGEST_TURN = 3000


def far(one, other):
    """How far two places are from one another, the shorter way round."""
    ahead = (other - one) % ROUND
    return min(ahead, ROUND - ahead)


class Mark:
    """A mark: its place, and the part of each of its turns in which it stands high."""

    def __init__(self, place, first, high, turn):
        # the turn ahead of the others: it bounds two of them
        if not is_among(turn, 1, LONGEST_TURN):
            raise BadMark("this is no turn")
        if not is_among(place, 0, ROUND - 1):
            raise BadMark("this is no place")
        if not is_among(first, 0, turn - 1):
            raise BadMark("this is no first minute of the turn")
        if not is_among(high, 1, turn):
            raise BadMark("this is no part of the turn")
        self._place = place
        self._first = first
        self._high = high
        self._turn = turn

    @property
    def place(self):
        """Where it stands, 0 to 359."""
        return self._place

    @property
    def first(self):
        """The first minute at which it rises."""
        return self._first

    @property
    def high(self):
        """How many minutes of each turn it stands high."""
        return self._high

    @property
    def turn(self):
        """After how many minutes it rises again."""
        return self._turn

    def is_high(self, minute):
        """Whether it stands high at the minute."""
        return (minute - self._first) % self._turn < self._high

    def high_in(self, begin, behind):
        """The stretches at which it stands high, from begin up to behind."""
        if behind <= begin:
            return []
        # turn by turn they would touch
        if self._high == self._turn:
            return [(begin, behind)]
        out = []
        rise = begin - (begin - self._first) % self._turn
        while rise < behind:
            start = max(rise, begin)
            end = min(rise + self._high, behind)
            # the turn that is on at begin may have been high before it only
            if start < end:
                out.append((start, end))
            rise += self._turn
        return out

    def next_high(self, minute, long):
        """The least minute from this one on from which it stands high so long, or None."""
        # a mark that is always high stands so for longer than a turn, too
        if self._high == self._turn:
            return minute
        if long > self._high:
            return None
        gone = (minute - self._first) % self._turn
        if gone + long <= self._high:
            return minute
        return minute + self._turn - gone
