"""Stretches: rising tuples (begin, behind) of minutes, none touching another."""

from nightdeal.errors import BadStretches
from nightdeal.numbers import is_among, need_number

MOST_STRETCHES = 2000
LAST_MINUTE = 1000000
LATEST_SEARCH = 2000000


def is_stretch(thing):
    """Whether anything is a tuple of two minutes, the first one less."""
    if not isinstance(thing, tuple) or len(thing) != 2:
        return False
    begin, behind = thing
    return is_among(begin, 0, LAST_MINUTE) and is_among(behind, begin + 1, LAST_MINUTE)


def are_stretches(thing):
    """Whether anything is a list of stretches in their order."""
    if not isinstance(thing, list) or len(thing) > MOST_STRETCHES:
        return False
    ended = -1
    for item in thing:
        # one that begins where the last one ended touches it
        if not is_stretch(item) or item[0] <= ended:
            return False
        ended = item[1]
    return True


def need_stretches(thing):
    """Refuse what are no stretches."""
    if not are_stretches(thing):
        raise BadStretches("these are no stretches")


def joined(one, other):
    """The minutes of either, as stretches."""
    need_stretches(one)
    need_stretches(other)
    out = []
    for begin, behind in sorted(one + other):
        # begin may equal the end ahead of it: stretches that touch are told as one
        if out and begin <= out[-1][1]:
            out[-1] = (out[-1][0], max(out[-1][1], behind))
        else:
            out.append((begin, behind))
    return out


def overlaps(one, other):
    """The minutes of both, of lists that need not be stretches to the letter."""
    out = []
    here = 0
    there = 0
    while here < len(one) and there < len(other):
        begin = max(one[here][0], other[there][0])
        behind = min(one[here][1], other[there][1])
        # where they only touch, and where one of them is empty, there is nothing to tell
        if begin < behind:
            out.append((begin, behind))
        # the one that ends first can share nothing with what is left
        if one[here][1] <= other[there][1]:
            here += 1
        else:
            there += 1
    return out


def gaps(one, first, last):
    """The minutes from first up to last that the stretches don't have, perhaps with an empty stretch at an end.

    The stretches stand within these minutes."""
    ends = [first] + [behind for _, behind in one]
    begins = [begin for begin, _ in one] + [last]
    return list(zip(ends, begins))


def met(one, other):
    """The minutes of both, as stretches."""
    need_stretches(one)
    need_stretches(other)
    return overlaps(one, other)


def without(one, other):
    """The minutes of the first that the second has not, as stretches."""
    need_stretches(one)
    need_stretches(other)
    return overlaps(one, gaps(other, 0, LAST_MINUTE))


def long_of(one):
    """How many minutes the stretches have."""
    need_stretches(one)
    return sum([behind - begin for begin, behind in one])


def holds(one, begin, behind):
    """Whether one of the stretches has all minutes from begin up to behind."""
    need_stretches(one)
    need_number(begin, 0, LAST_MINUTE)
    need_number(behind, 0, LAST_MINUTE)
    if begin >= behind:
        return True
    return any([first <= begin and behind <= end for first, end in one])


def first_fit(one, minute, long):
    """The least begin from the minute on of so many minutes of one stretch, or None."""
    need_stretches(one)
    need_number(minute, 0, LATEST_SEARCH)
    need_number(long, 1, LAST_MINUTE)
    for begin, behind in one:
        start = max(begin, minute)
        if start + long <= behind:
            return start
    return None
