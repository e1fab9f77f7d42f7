"""Plain ways to tell what the program tells, for the tests to go by."""

from nightdeal.errors import NoSuch


def told_as_stretches(minutes):
    """A set of minutes as stretches, put together minute by minute."""
    out = []
    for minute in sorted(minutes):
        if minute - 1 in minutes:
            out[-1] = (out[-1][0], minute + 1)
        else:
            out.append((minute, minute + 1))
    return out


def high_at(mark, minute):
    """Whether a mark stands high at a minute, by the words of M1."""
    return (minute - mark.first) % mark.turn < mark.high


def apart(one, other):
    """How far two places are from one another, the shorter way round."""
    straight = abs(one - other)
    return min(straight, 360 - straight)


def windows(mark, moons, begin, behind):
    """The windows of a mark, minute by minute."""
    near = [moon for moon, reach in moons if apart(moon.place, mark.place) <= reach]
    found = set()
    for minute in range(begin, behind):
        if high_at(mark, minute) and not any(high_at(moon, minute) for moon in near):
            found.add(minute)
    return told_as_stretches(found)


def turning(one, other, speed, settle):
    """How long turning takes between the places of two marks that aren't the same."""
    left, minutes = apart(one, other), settle
    while left > 0:
        left -= speed
        minutes += 1
    return minutes


def all_of_mark(mark):
    return (mark.place, mark.first, mark.high, mark.turn)


def all_of_wish(wish):
    return (
        wish.name, wish.watcher, wish.target, wish.long, wish.times, wish.apart, wish.worth, wish.nights,
    )


def all_of(book, sky):
    """All that a book tells, its sky's marks told by the sky; nights as many as it tells."""
    nights = nights_of(book)
    numbers = range(len(nights))
    marks = [None] + sky.names()
    return {
        "wishes": [all_of_wish(book.wish(name)) for name in book.names()],
        "nights": nights,
        "wanted": [book.wanted(number) for number in numbers],
        "windows": [(name, book.windows(name, number)) for name in book.names() for number in numbers],
        "shares": [(watcher, book.share(watcher)) for watcher in book.watchers()],
        "turnings": [(one, other, book.turning(one, other)) for one in marks for other in marks[1:]],
    }


def nights_of(book):
    """The nights of a book, asked for until there is none."""
    out = []
    while True:
        try:
            out.append(book.night(len(out)))
        except NoSuch:
            return out
