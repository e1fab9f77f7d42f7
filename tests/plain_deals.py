"""Plain ways to tell what may be dealt, minute by minute, for the tests to go by."""

import fractions
import random

import plain
from nightdeal.book import Book
from nightdeal.marks import Mark
from nightdeal.sky import Sky
from nightdeal.wishes import Wish


class PlainBook:
    """The parts of a book, and what the rules' words say of them."""

    def __init__(self, sky, speed, settle, nights, shares, wishes):
        self.sky, self.speed, self.settle = sky, speed, settle
        self.nights, self.shares = nights, shares
        self.wishes = {wish.name: wish for wish in wishes}
        self.seen = {}

    def book(self):
        return Book(self.sky, self.speed, self.settle, self.nights, self.shares, list(self.wishes.values()))

    def wanted(self, night):
        return sorted(name for name, wish in self.wishes.items() if wish.nights[0] <= night <= wish.nights[1])

    def seen_in(self, name, night):
        """The minutes of a night at which the mark of a wish is seen."""
        if (name, night) not in self.seen:
            mark = self.sky.mark(self.wishes[name].target)
            told = plain.windows(mark, self.sky.moons, *self.nights[night])
            self.seen[name, night] = {minute for begin, behind in told for minute in range(begin, behind)}
        return self.seen[name, night]

    def turning(self, one, other):
        if one is None or one == other:
            return 0
        places = [self.sky.mark(name).place for name in (one, other)]
        return plain.turning(*places, self.speed, self.settle)

    def end(self, look):
        return look[1] + self.wishes[look[0]].long

    def used(self, done, watcher):
        minutes = 0
        for name, begins in done.items():
            for _ in begins:
                if name in self.wishes and self.wishes[name].watcher == watcher:
                    minutes += self.wishes[name].long
        return minutes

    def word(self, done, night, ahead, look, since=None):
        """The word by which a look can't stand, by the words of R1."""
        name, begin = look
        first, behind = self.nights[night]
        told = list(done.get(name, []))
        if name not in self.wishes:
            return "wish"
        wish = self.wishes[name]
        if name not in self.wanted(night):
            return "night"
        if any(name == other for other, _ in ahead):
            return "twice"
        if len(told) >= wish.times:
            return "times"
        minutes = range(begin, begin + wish.long)
        if any(minute < first or (since and minute < since[0]) or minute >= behind for minute in minutes):
            return "dark"
        if any(minute not in self.seen_in(name, night) for minute in minutes):
            return "low"
        if told and begin < told[-1] + wish.long + wish.apart:
            return "apart"
        if ahead and begin < self.end(ahead[-1]) + self.turning(self.wishes[ahead[-1][0]].target, wish.target):
            return "turn"
        if not ahead and since and begin < since[0] + self.turning(since[1], wish.target):
            return "turn"
        minutes = self.used(done, wish.watcher)
        for other, _ in ahead + [look]:
            if self.wishes[other].watcher == wish.watcher:
                minutes += self.wishes[other].long
        return "share" if minutes > self.shares[wish.watcher] else None

    def wrong(self, done, night, looks, since=None):
        for at, look in enumerate(looks):
            word = self.word(done, night, looks[:at], look, since)
            if word is not None:
                return (at, word)
        return None

    def least_begin(self, done, night, row, name, since=None):
        """The least minute at which a look can stand behind a row, going through them one by one."""
        for minute in range(*self.nights[night]):
            if self.word(done, night, row, (name, minute), since) is None:
                return minute
        return None

    def rows(self, done, night, since=None, ahead=()):
        """All orders of all sets of wishes that can stand, each look at its least minute."""
        yield list(ahead)
        for name in self.wishes:
            minute = self.least_begin(done, night, list(ahead), name, since)
            if minute is not None:
                yield from self.rows(done, night, since, ahead + ((name, minute),))

    def all_rows(self, done, night, since=None, ahead=()):
        """All rows that may stand, at whatever minutes."""
        yield list(ahead)
        for name in self.wishes:
            for minute in range(*self.nights[night]):
                if self.word(done, night, list(ahead), (name, minute), since) is None:
                    yield from self.all_rows(done, night, since, ahead + ((name, minute),))

    def turn_order(self, done):
        """The watchers' order by the words of F1."""
        def place(watcher):
            if self.shares[watcher] == 0:
                return (1, 0, watcher)
            return (0, fractions.Fraction(self.used(done, watcher), self.shares[watcher]), watcher)
        return sorted(self.shares, key=place)

    def fair(self, done, night, since=None):
        """A fair row, put together by the words of F2."""
        row = []
        while True:
            looks = []
            for place, watcher in enumerate(self.turn_order(with_looks(done, row))):
                for name, wish in self.wishes.items():
                    minute = self.least_begin(done, night, row, name, since)
                    if wish.watcher == watcher and minute is not None:
                        looks.append((place, -wish.worth, name, minute))
            if not looks:
                return row
            row.append(min(looks)[2:])

    def without(self, name):
        parts = (self.sky, self.speed, self.settle, self.nights, self.shares)
        return PlainBook(*parts, [wish for wish in self.wishes.values() if wish.name != name])

    def rising(self):
        """The same with its wishes by rising names."""
        parts = (self.sky, self.speed, self.settle, self.nights, self.shares)
        return PlainBook(*parts, [self.wishes[name] for name in sorted(self.wishes)])

    def worth(self, row):
        return sum(self.wishes[name].worth for name, _ in row)

    def reach(self, rows, night, since=None):
        """The least ends of the names of rows."""
        out = {}
        for row in rows:
            start = max(self.nights[night][0], since[0] if since else 0)
            end = self.end(row[-1]) if row else start
            names = tuple(sorted(name for name, _ in row))
            out[names] = min(end, out.get(names, end))
        return out

    def blocked(self, told, names):
        """The least of the shortest lists that isn't told, of all parts of the names."""
        found = []
        for part in range(2 ** len(names)):
            some = sorted(name for at, name in enumerate(sorted(names)) if part >> at & 1)
            if tuple(some) not in told:
                found.append(some)
        return min(found, key=lambda some: (len(some), some)) if found else None


def with_looks(done, looks):
    """What was done with some more looks."""
    out = {name: list(begins) for name, begins in done.items()}
    for name, begin in looks:
        out.setdefault(name, []).append(begin)
    return out


def random_sky(rng, longest):
    marks = {}
    for name in rng.sample(["ara", "crux", "lyra", "vela"], rng.randint(1, 4)):
        turn = rng.randint(1, longest)
        marks[name] = Mark(rng.randrange(360), rng.randrange(turn), rng.randint((turn + 1) // 2, turn), turn)
    moons = []
    for _ in range(rng.choice([0, 0, 1, 2])):
        turn = rng.randint(4, longest)
        moons.append((Mark(rng.randrange(360), rng.randrange(turn), rng.randint(1, turn // 3 + 1), turn), 90))
    return Sky(marks, moons)


def random_parts(rng, longest, most_wishes, nights=1):
    """The parts of a small book, whose nights are no longer than so many minutes."""
    sky = random_sky(rng, longest)
    begin, told = rng.randint(0, 50), []
    for _ in range(nights):
        told.append((begin, begin + rng.randint(longest // 2, longest)))
        begin = told[-1][1] + rng.randint(1, longest)
    watchers = rng.sample(["ann", "bob", "cy"], rng.randint(1, 3))
    shares = {watcher: rng.choice([longest, longest // 2, 1000, 1000, rng.randint(0, 9)]) for watcher in watchers}
    wishes = []
    for name in rng.sample("abcdefgh", rng.randint(1, most_wishes)):
        first = rng.randrange(nights)
        wishes.append(Wish(
            name, rng.choice(watchers), rng.choice(sky.names()), rng.randint(1, max(1, longest // 5)),
            rng.randint(1, 3), rng.randint(0, longest), rng.randint(1, 4), (first, rng.randint(first, nights - 1)),
        ))
    speed, settle = rng.choice([(360, 0), (60, 1), (30, 2), (180, 3)])
    return (sky, speed, settle, told, shares, wishes)


def random_done(rng, parts):
    """Something that was done by then, also of a wish that is none."""
    done = {}
    begin = parts[3][0][0]
    for wish in parts[5]:
        if rng.random() < 0.25:
            told = sorted(rng.sample(range(begin + 30), rng.randint(0, wish.times)))
            done[wish.name] = told
    if rng.random() < 0.3:
        done["gone"] = [1, 5]
    return done


def random_since(rng, parts, night=0):
    """From where on a night may be dealt, ahead of it, in it and behind it."""
    begin, behind = parts[3][night]
    mark = rng.choice(parts[0].names() + [None])
    ahead = max(0, begin - rng.randint(1, 9))
    minute = rng.choice([begin, begin, rng.randint(begin, behind), ahead, behind, behind + 3])
    return rng.choice([None, (minute, mark), (minute, mark)])


def books(seed, count, longest, most_wishes, nights=1):
    """So many plain books, each with things done."""
    rng = random.Random(seed)
    for _ in range(count):
        parts = random_parts(rng, longest, most_wishes, nights)
        yield PlainBook(*parts), random_done(rng, parts), random_since(rng, parts)
