"""Best nights: what can be done together, by when, and rows of the greatest worth."""

from nightdeal.dealing import dealing_of


def one_more(dealing, rows):
    """Each of these rows with each look more that can stand, by their names and the last of these.

    Of several the one that ends first: what can stand behind the others can stand behind it."""
    out = {}
    for row in rows:
        for name in dealing.names():
            begin = dealing.least_begin(row, name)
            if begin is None:
                continue
            key = (tuple(sorted([told for told, _ in row] + [name])), name)
            if key not in out or begin < out[key][-1][1]:
                out[key] = row + ((name, begin),)
    return list(out.values())


def least_rows(dealing):
    """For all names that can be done together, by each that can be the last of them, the row that ends first."""
    out = []
    rows = [()]
    while rows:
        out.extend(rows)
        rows = one_more(dealing, rows)
    return out


def best_row(dealing):
    """A row of looks of the greatest worth, each of them as early as it may stand."""
    # the first one of several, so that it is the same each time
    return max(least_rows(dealing), key=lambda row: dealing.worth_of(row))


def reach(book, done, night, since=None):
    """The least ends of all names that can be done together, by the rising tuples of them; NoSuch."""
    dealing = dealing_of(book, done, night, since)
    first, _ = book.night(night)
    out = {}
    for row in least_rows(dealing):
        names = tuple(sorted([name for name, _ in row]))
        minute, _ = dealing.stands_at(row)
        # none are done by the night's begin even where the telescope stands ahead of it
        end = max(first, minute)
        out[names] = min(end, out.get(names, end))
    return out


def best(book, done, night, since=None):
    """The greatest worth of a row of looks that may stand, and such a row; NoSuch."""
    dealing = dealing_of(book, done, night, since)
    row = best_row(dealing)
    return (dealing.worth_of(row), list(row))
