"""Tables: dicts by names."""

from nightdeal.errors import NoSuch
from nightdeal.numbers import is_name


def is_table(thing, most):
    """Whether anything is a dict of 1 to so many things by names."""
    return isinstance(thing, dict) and 1 <= len(thing) <= most and all([is_name(name) for name in thing])


def named(table, name):
    """What stands in a table by a name; NoSuch of anything that isn't there."""
    # is it a name at all: things of some kinds can't be looked up
    if not is_name(name) or name not in table:
        raise NoSuch("there is nothing of this name")
    return table[name]
