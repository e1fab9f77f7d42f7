"""Whole numbers and names."""

from nightdeal.errors import BadNumber

LONGEST_NAME = 8


def is_whole(thing):
    """Whether anything is a whole number."""
    # True and False are ints for Python, but no numbers here
    return isinstance(thing, int) and not isinstance(thing, bool)


def is_name(thing):
    """Whether anything is a text of 1 to 8 small letters, a to z."""
    if not isinstance(thing, str) or not 1 <= len(thing) <= LONGEST_NAME:
        return False
    # not islower(), which lets letters beyond z by
    return all(["a" <= sign <= "z" for sign in thing])


def is_among(thing, least, most):
    """Whether anything is a whole number from least to most."""
    return is_whole(thing) and least <= thing <= most


def need_number(thing, least, most):
    """Refuse what is no whole number from least to most."""
    # the thing isn't shown: Python refuses to write out very long numbers
    if not is_among(thing, least, most):
        raise BadNumber("this is no whole number within its bounds")
