"""Books' texts: a row for each thing that a book has, written and read."""

from nightdeal.book import Book, are_nights, are_shares, are_wishes, is_telescope
from nightdeal.errors import BadText, DealError
from nightdeal.marks import Mark
from nightdeal.numbers import number_of
from nightdeal.sky import Sky, are_marks, are_moons
from nightdeal.wishes import Wish

# what the words behind the first one of a row tell: a for a name, 0 for a number
FORMS = {
    "telescope": "00", "mark": "a0000", "moon": "00000", "night": "00", "watcher": "a0", "wish": "aaa000000",
}
# the first words that a row may have ahead of it, none ahead of the first row
AHEAD = {
    "telescope": ("",), "mark": ("telescope", "mark"), "moon": ("mark", "moon"),
    "night": ("mark", "moon", "night"), "watcher": ("night", "watcher"), "wish": ("watcher", "wish"),
}
# the first words of the rows with which a text may end
LAST_WORDS = ("watcher", "wish")


def mark_rows(sky):
    """The rows of a sky's marks."""
    out = []
    for name in sky.names():
        mark = sky.mark(name)
        out.append(f"mark {name} {mark.place} {mark.first} {mark.high} {mark.turn}")
    return out


def moon_rows(sky):
    """The rows of a sky's moons."""
    return [f"moon {mark.place} {mark.first} {mark.high} {mark.turn} {reach}" for mark, reach in sky.moons]


def night_rows(book):
    """The rows of a book's nights."""
    out = []
    for number in range(book.count_nights()):
        begin, behind = book.night(number)
        out.append(f"night {begin} {behind}")
    return out


def wish_row(wish):
    """The row of a wish."""
    first, last = wish.nights
    names = f"wish {wish.name} {wish.watcher} {wish.target}"
    return f"{names} {wish.long} {wish.times} {wish.apart} {wish.worth} {first} {last}"


def book_text(book):
    """A book's text."""
    rows = [f"telescope {book.speed} {book.settle}"]
    rows.extend(mark_rows(book.sky))
    rows.extend(moon_rows(book.sky))
    rows.extend(night_rows(book))
    rows.extend([f"watcher {name} {book.share(name)}" for name in book.watchers()])
    rows.extend([wish_row(book.wish(name)) for name in book.names()])
    return "\n".join(rows)


def need(stands):
    """Refuse a row that can't stand; its number is told further out."""
    if not stands:
        raise BadText()


def values_of(words, form):
    """The words of a form, its numbers as such; some refusal where they aren't."""
    need(len(words) == len(form))
    # whether names are names is asked for where the values go
    return [number_of(word) if kind == "0" else word for word, kind in zip(words, form)]


def need_rising(names, name):
    """Refuse a name that doesn't rise behind the rising names ahead of it."""
    need(not names or names[-1] < name)


class Draft:
    """What was read so far of a book's text, row by row."""

    def __init__(self):
        self._last_word = ""
        self._telescope = (0, 0)
        self._marks_read = {}
        self._moons_read = []
        self._nights_read = []
        self._shares_read = {}
        self._wishes_read = []

    def take(self, words):
        """Read one more row; some refusal of a row that can't stand behind those ahead of it."""
        word = words[0]
        need(word in AHEAD and self._last_word in AHEAD[word])
        values = values_of(words[1:], FORMS[word])
        if word == "telescope":
            self._take_telescope(values)
        elif word == "mark":
            self._take_mark(values)
        elif word == "moon":
            self._take_moon(values)
        elif word == "night":
            self._take_night(values)
        elif word == "watcher":
            self._take_watcher(values)
        else:
            self._take_wish(values)
        self._last_word = word

    def _take_telescope(self, values):
        speed, settle = values
        need(is_telescope(speed, settle))
        self._telescope = (speed, settle)

    def _take_mark(self, values):
        name, place, first, high, turn = values
        need_rising(sorted(self._marks_read), name)
        self._marks_read[name] = Mark(place, first, high, turn)
        need(are_marks(self._marks_read))

    def _take_moon(self, values):
        place, first, high, turn, reach = values
        self._moons_read.append((Mark(place, first, high, turn), reach))
        need(are_moons(self._moons_read))

    def _take_night(self, values):
        begin, behind = values
        self._nights_read.append((begin, behind))
        need(are_nights(self._nights_read))

    def _take_watcher(self, values):
        name, share = values
        need_rising(sorted(self._shares_read), name)
        self._shares_read[name] = share
        need(are_shares(self._shares_read))

    def _take_wish(self, values):
        name, watcher, mark, long, times, apart, worth, first, last = values
        need_rising([wish.name for wish in self._wishes_read], name)
        self._wishes_read.append(Wish(name, watcher, mark, long, times, apart, worth, (first, last)))
        need(are_wishes(self._wishes_read, self._sky_read(), self._nights_read, self._shares_read))

    def _sky_read(self):
        """The sky that was read."""
        return Sky(self._marks_read, self._moons_read)

    def is_whole_text(self):
        """Whether no row lacks at the end."""
        return self._last_word in LAST_WORDS

    def book(self):
        """The book that was read."""
        speed, settle = self._telescope
        return Book(self._sky_read(), speed, settle, self._nights_read, self._shares_read, self._wishes_read)


def read_book(text):
    """The book of a text; BadText of anything else."""
    if not isinstance(text, str):
        raise BadText(None)
    draft = Draft()
    rows = text.split("\n")
    for at, row in enumerate(rows):
        try:
            draft.take(row.split(" "))
        except DealError:
            raise BadText(at) from None
    if not draft.is_whole_text():
        raise BadText(len(rows))
    return draft.book()
