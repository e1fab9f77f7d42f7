"""Several nights: what they can bring at most, and what one or two of them do."""

from nightdeal.best import best, best_row
from nightdeal.dealing import Dealing, Openings, dealing_of
from nightdeal.errors import NoSuch, TooGreat
from nightdeal.ledger import times_done, with_looks

MOST_GONE_THROUGH = 2
MOST_WISHES_GONE_THROUGH = 5


def need_nights(book, nights):
    """Refuse what is no list of unlike numbers of nights, rising, one at least."""
    if not isinstance(nights, list) or not nights:
        raise NoSuch("this is no list of nights")
    for number in nights:
        # asked for nothing but the refusal
        book.night(number)
    if not all([one < other for one, other in zip(nights, nights[1:])]):
        raise NoSuch("these nights don't rise")


def times_left(book, done, name):
    """How often a wish may still be done."""
    return max(0, book.wish(name).times - times_done(done, name))


def worth_by_times(book, done, nights):
    """The worths of all wishes, each so often as it is wanted in these nights and may still be done."""
    total = 0
    for name in book.names():
        wanted = len([night for night in nights if name in book.wanted(night)])
        total += book.wish(name).worth * min(wanted, times_left(book, done, name))
    return total


def bound(book, done, nights):
    """What these nights can't bring more than; NoSuch."""
    need_nights(book, nights)
    worth_by_nights = sum([best(book, done, night)[0] for night in nights])
    return min(worth_by_nights, worth_by_times(book, done, nights))


def all_rows(dealing):
    """All orders of all wishes that can be looked at in a night, each look as early as it may stand.

    No look of such an order can end earlier, so that what is dealt behind is never worse off."""
    out = [()]
    rows = [()]
    while rows:
        rows = [row + ((name, begin),) for row in rows for name, begin in next_looks(dealing, row)]
        out.extend(rows)
    return out


def next_looks(dealing, row):
    """All looks that can stand behind a row, each at its least minute."""
    looks = [(name, dealing.least_begin(row, name)) for name in dealing.names()]
    return [(name, begin) for name, begin in looks if begin is not None]


def need_few(book, done, night):
    """Refuse a night in which more wishes may still be done than can be gone through."""
    left = [name for name in book.wanted(night) if times_left(book, done, name) > 0]
    if len(left) > MOST_WISHES_GONE_THROUGH:
        raise TooGreat("too many wishes to go through")


def worth_behind(book, done, night, openings):
    """The greatest worth of a row of a night, behind what was done."""
    dealing = Dealing(book, done, night, None, openings)
    return dealing.worth_of(best_row(dealing))


def gone_through(book, done, nights):
    """The greatest sum of worths that one or two nights bring; NoSuch, TooGreat."""
    need_nights(book, nights)
    if len(nights) > MOST_GONE_THROUGH:
        raise NoSuch("too many nights to go through")
    for night in nights:
        need_few(book, done, night)
    first = dealing_of(book, done, nights[0], None)
    rows = all_rows(first)
    if len(nights) == 1:
        return max([first.worth_of(row) for row in rows])
    night = nights[1]
    # the same behind each row: only what was done differs
    openings = Openings(book, night)
    return max([first.worth_of(row) + worth_behind(book, with_looks(done, row), night, openings) for row in rows])
