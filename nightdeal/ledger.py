"""What was done: the looks, when a wish may be looked at again, and the minutes that watchers used."""

from nightdeal.numbers import is_name


def begins_done(done, name):
    """The begins of the looks of a name that were done, none of what is no name."""
    # is it a name at all: things of some kinds can't be looked up
    if not is_name(name) or name not in done:
        return []
    return done[name]


def times_done(done, name):
    """How many looks of a name were done."""
    return len(begins_done(done, name))


def end_of(book, name, begin):
    """The minute behind a look; NoSuch."""
    return begin + book.wish(name).long


def free_from(book, done, name):
    """The least minute from which on a wish may be looked at again; NoSuch."""
    wish = book.wish(name)
    begins = begins_done(done, name)
    if not begins:
        return 0
    return end_of(book, name, begins[-1]) + wish.apart


def used(book, done, watcher):
    """The minutes of all looks that were done of a watcher's wishes in the book; NoSuch."""
    # asked for nothing but the refusal
    book.share(watcher)
    wishes = [book.wish(name) for name in book.names()]
    return sum([wish.long * times_done(done, wish.name) for wish in wishes if wish.watcher == watcher])


def with_looks(done, looks):
    """What was done with these looks behind it, names rising."""
    begins = {name: list(done[name]) for name in done}
    for name, begin in looks:
        begins[name] = begins.get(name, []) + [begin]
    return {name: begins[name] for name in sorted(begins)}
