"""Rules: rows of looks that may stand in a night, and the words by which others can't."""

from nightdeal.errors import BadLook
from nightdeal.ledger import end_of, free_from, times_done, used
from nightdeal.numbers import is_whole
from nightdeal.stretches import holds


def is_look(thing):
    """Whether anything is a tuple of a text and a minute from 0 on."""
    if not isinstance(thing, tuple) or len(thing) != 2:
        return False
    name, begin = thing
    return isinstance(name, str) and is_whole(begin) and begin >= 0


def need_looks(thing):
    """Refuse what is no list of looks, by the place of the first that is none."""
    if not isinstance(thing, list):
        raise BadLook(0)
    for at, look in enumerate(thing):
        if not is_look(look):
            raise BadLook(at)


def start_of(book, night, since):
    """From where on a night is dealt: a minute, and the mark where the telescope stands then; NoSuch."""
    begin, _ = book.night(night)
    if since is None:
        return (begin, None)
    return since


class Row:
    """A row of looks that may stand in a night, behind what was done, and grows by more such looks."""

    def __init__(self, book, done, night, since):
        self._book = book
        self._done = done
        self._night = night
        self._start = start_of(book, night, since)
        self._looks = []

    def put(self, look):
        """One more look, which can stand behind the others."""
        self._looks.append(look)

    def word(self, look):
        """The first word by which a look can't stand behind the others, or None where it can."""
        name, begin = look
        if name not in self._book.names():
            return "wish"
        if name not in self._book.wanted(self._night):
            return "night"
        if name in [told for told, _ in self._looks]:
            return "twice"
        wish = self._book.wish(name)
        if times_done(self._done, name) >= wish.times:
            return "times"
        return self._word_of_minutes(wish, begin)

    def _word_of_minutes(self, wish, begin):
        """The first word by which the minutes of a look can't be its own, or None."""
        end = end_of(self._book, wish.name, begin)
        if self._is_dark(begin, end):
            return "dark"
        if not holds(self._book.windows(wish.name, self._night), begin, end):
            return "low"
        if begin < free_from(self._book, self._done, wish.name):
            return "apart"
        minute, mark = self._stands_at()
        if begin < minute + self._book.turning(mark, wish.target):
            return "turn"
        if self._minutes_of(wish.watcher) + wish.long > self._book.share(wish.watcher):
            return "share"
        return None

    def _is_dark(self, begin, end):
        """Whether some of these minutes are none that may be dealt."""
        first, behind = self._book.night(self._night)
        return begin < max(first, self._start[0]) or end > behind

    def _stands_at(self):
        """From which minute on the telescope may turn to the next look, and from which mark."""
        if not self._looks:
            return self._start
        name, begin = self._looks[-1]
        return (end_of(self._book, name, begin), self._book.wish(name).target)

    def _minutes_of(self, watcher):
        """A watcher's minutes of all that was done and of the looks in the row."""
        wishes = [self._book.wish(name) for name, _ in self._looks]
        return used(self._book, self._done, watcher) + sum([wish.long for wish in wishes if wish.watcher == watcher])


def wrong(book, done, night, looks, since=None):
    """The place and the word of the first look that can't stand, None where all can; NoSuch, BadLook."""
    # asked for the refusal of the night, which is told ahead of the looks'
    row = Row(book, done, night, since)
    need_looks(looks)
    for at, look in enumerate(looks):
        word = row.word(look)
        if word is not None:
            return (at, word)
        row.put(look)
    return None
