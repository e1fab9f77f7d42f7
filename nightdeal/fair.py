"""Fair rows: looks that watchers put one by one, those first who used the least part of their shares."""

from math import lcm

from nightdeal.dealing import dealing_of
from nightdeal.ledger import used, with_looks


def turn_order(book, done):
    """All watchers: the minutes used over the share, the least first; no share last; then by names."""
    shares = {watcher: book.share(watcher) for watcher in book.watchers()}
    common = 1
    for share in shares.values():
        common = lcm(common, max(1, share))
    parts = []
    for watcher, share in shares.items():
        # all parts over the same number, so that they are told apart exactly
        part = used(book, done, watcher) * (common // share) if share > 0 else 0
        parts.append((share == 0, part, watcher))
    return [watcher for _, _, watcher in sorted(parts)]


def names_of(book, watcher, names):
    """Those of the names that are a watcher's wishes, the greatest worth first, then by names."""
    wishes = [book.wish(name) for name in names]
    return [name for _, name in sorted([(-wish.worth, wish.name) for wish in wishes if wish.watcher == watcher])]


def next_look(book, done, dealing, row):
    """The look that is put behind a row, or None where nobody can."""
    for watcher in turn_order(book, with_looks(done, row)):
        for name in names_of(book, watcher, dealing.names()):
            begin = dealing.least_begin(row, name)
            if begin is not None:
                return (name, begin)
    return None


def fair(book, done, night, since=None):
    """The fair row of looks of a night; NoSuch."""
    dealing = dealing_of(book, done, night, since)
    row = []
    look = next_look(book, done, dealing, row)
    while look is not None:
        row.append(look)
        look = next_look(book, done, dealing, row)
    return row
