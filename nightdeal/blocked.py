"""What can't be done together: the fewest wishes of a night that can't."""

from itertools import combinations

from nightdeal.best import reach
from nightdeal.errors import NoSuch
from nightdeal.numbers import is_name


def need_wanted(book, night, names):
    """Refuse what is no night, then what are no unlike names of wishes that are wanted in it."""
    wanted = book.wanted(night)
    if not isinstance(names, list) or not all([is_name(name) and name in wanted for name in names]):
        raise NoSuch("these are no names that are wanted in the night")
    if len({name for name in names}) != len(names):
        raise NoSuch("one of the names is told twice")


def together(book, done, night, names):
    """Whether these names can be done together in a night; NoSuch."""
    need_wanted(book, night, names)
    return tuple(sorted(names)) in reach(book, done, night)


def blocked(book, done, night, names):
    """The least of the shortest lists of these names that can't be done together, or None; NoSuch."""
    need_wanted(book, night, names)
    done_together = reach(book, done, night)
    rising = sorted(names)
    for many in range(1, len(rising) + 1):
        # rising names give rising lists: the first one is the least
        for some in combinations(rising, many):
            if some not in done_together:
                return list(some)
    return None
