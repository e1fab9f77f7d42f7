"""Whole numbers and names."""

from nightdeal.errors import BadNumber

LONGEST_NAME = 8
MOST_FIGURES = 7


def is_whole(thing):
    """Whether anything is a whole number."""
    # True and False are ints for Python, but no numbers here
    return isinstance(thing, int) and not isinstance(thing, bool)


def is_name(thing):
    """Whether anything is a text of 1 to 8 small letters, a to z."""
    if not isinstance(thing, str) or not 1 <= len(thing) <= LONGEST_NAME:
        return False
    # not islower(), which lets letters beyond z by
    return all(["a" <= sign <= "z" for sign in thing])


def is_among(thing, least, most):
    """Whether anything is a whole number from least to most."""
    return is_whole(thing) and least <= thing <= most


def need_number(thing, least, most):
    """Refuse what is no whole number from least to most."""
    # the thing isn't shown: Python refuses to write out very long numbers
    if not is_among(thing, least, most):
        raise BadNumber("this is no whole number within its bounds")


def number_of(word):
    """The number that a text tells by 1 to 7 figures without a needless nought, or BadNumber."""
    # not isdigit(), which lets figures beyond 9 by
    if not 1 <= len(word) <= MOST_FIGURES or not all(["0" <= sign <= "9" for sign in word]):
        raise BadNumber("this is no number by figures")
    if len(word) > 1 and word[0] == "0":
        raise BadNumber("this number has a needless nought")
    return int(word)
