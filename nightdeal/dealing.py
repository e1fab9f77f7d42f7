"""Dealing: a night's rows of looks, put together by the least minutes at which looks can stand."""

from nightdeal.ledger import end_of, free_from, times_done, used
from nightdeal.rules import start_of


def least_begins(windows, first, long):
    """From the minute first on, for each one the least begin, no less, of a look within one of the windows.

    The list ends where no look may begin any more."""
    out = []
    for begin, behind in [window for window in windows if window[1] - window[0] >= long]:
        # the first minute from which no look of the windows ahead begins any more
        start = first + len(out)
        for minute in range(start, behind - long + 1):
            out.append(max(minute, begin))
    return out


class Openings:
    """When the looks that are wanted in a night may begin, by the sky alone."""

    def __init__(self, book, night):
        first, _ = book.night(night)
        self._first = first
        self._begins = {}
        for name in book.wanted(night):
            self._begins[name] = least_begins(book.windows(name, night), first, book.wish(name).long)

    def least_begin(self, name, minute):
        """The least begin of a look, no less than the minute, or None."""
        begins = self._begins[name]
        at = max(0, minute - self._first)
        return begins[at] if at < len(begins) else None


class Dealing:
    """A night that is dealt behind what was done, from where the telescope stands on."""

    def __init__(self, book, done, night, since, openings):
        self._book = book
        self._openings = openings
        self._start = start_of(book, night, since)
        self._free = {}
        for name in book.wanted(night):
            if times_done(done, name) < book.wish(name).times:
                self._free[name] = free_from(book, done, name)
        self._left = {watcher: book.share(watcher) - used(book, done, watcher) for watcher in book.watchers()}

    def names(self):
        """The rising names of the wishes that are wanted and may still be done."""
        return list(self._free)

    def worth_of(self, row):
        """The sum of the worths of a row's wishes."""
        return sum([self._book.wish(name).worth for name, _ in row])

    def stands_at(self, row):
        """The minute at which a row of looks has ended, and the mark where the telescope stands then."""
        if not row:
            return self._start
        name, begin = row[-1]
        return (end_of(self._book, name, begin), self._book.wish(name).target)

    def least_begin(self, row, name):
        """The least minute at which a look of one of these names can stand behind a row that may stand, or None."""
        if name in [told for told, _ in row] or not self._is_left(row, name):
            return None
        minute, mark = self.stands_at(row)
        turned = minute + self._book.turning(mark, self._book.wish(name).target)
        return self._openings.least_begin(name, max(turned, self._free[name]))

    def _is_left(self, row, name):
        """Whether a watcher's share has a look of the name left, behind the row."""
        wish = self._book.wish(name)
        dealt = [self._book.wish(told) for told, _ in row]
        minutes = sum([other.long for other in dealt if other.watcher == wish.watcher])
        return minutes + wish.long <= self._left[wish.watcher]


def dealing_of(book, done, night, since):
    """A night to be dealt; NoSuch."""
    return Dealing(book, done, night, since, Openings(book, night))
