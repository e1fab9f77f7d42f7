"""A season kept plainly, minute by minute, for the tests to go by."""

from nightdeal.best import best


def state(season):
    """All that a season tells."""
    return {
        "names": season.book_now().names(), "night": season.night(), "minute": season.minute(),
        "mark": season.mark(), "done": season.done(), "order": list(season.done()), "planned": season.planned(),
        "since": season.since(), "counted": season.counted(), "order counted": list(season.counted()),
        "over": season.over(),
    }


class PlainSeason:
    """The season of a plain book; its deeds are handed in only where they may be done."""

    def __init__(self, told):
        self.told = told
        self.number, self.now, self.at = 0, told.nights[0][0], None
        self.looks, self.plan = [], []

    def held(self):
        """The look under way, in a list."""
        return [look for look in self.plan if look[1] < self.now]

    def from_where(self):
        for look in self.held():
            return (self.told.end(look), self.told.wishes[look[0]].target)
        return (self.now, self.at)

    def as_done(self, looks):
        out = {}
        for name, begin in sorted(looks):
            out.setdefault(name, []).append(begin)
        return out

    def state(self):
        done, counted = self.as_done(self.looks), self.as_done(self.looks + self.held())
        return {
            "names": sorted(self.told.wishes), "night": self.number, "minute": self.now, "mark": self.at,
            "done": done, "order": sorted(done), "planned": self.plan, "since": self.from_where(),
            "counted": counted, "order counted": sorted(counted), "over": self.number == len(self.told.nights),
        }

    def deal(self, way):
        counted, since = self.as_done(self.looks + self.held()), self.from_where()
        if way == "best":
            # which of several isn't promised, but the same each time
            looks = best(self.told.book(), counted, self.number, since)[1]
        else:
            looks = self.told.fair(counted, self.number, since)
        self.plan = self.held() + looks

    def go(self, minute):
        while self.now < minute:
            self.now += 1
            for look in list(self.plan):
                if look[1] < self.now:
                    self.at = self.told.wishes[look[0]].target
                if self.told.end(look) == self.now:
                    self.looks.append(look)
                    self.plan.remove(look)

    def cloud(self):
        self.plan = []

    def close(self):
        self.go(self.told.nights[self.number][1])
        self.number, self.at = self.number + 1, None
        if self.number < len(self.told.nights):
            self.now = self.told.nights[self.number][0]

    def drop(self, name):
        self.told = self.told.without(name)
        self.plan = [look for look in self.plan if look[0] != name]


def random_deed(rng, kept):
    """A deed and what is handed in to it, that may be done in a season that isn't over."""
    behind = kept.told.nights[kept.number][1]
    ways_on = ["close"] * (6 if kept.now == behind else 1)
    deed = rng.choice(["deal"] * 6 + ["go"] * 10 + ["cloud", "drop"] + ways_on)
    if deed == "deal":
        return deed, [rng.choice(["best", "fair"])]
    if deed == "go":
        edges = [minute for look in kept.plan[:2] for minute in (look[1], look[1] + 1, kept.told.end(look))]
        minutes = [kept.now, rng.choice([kept.now + 1, behind])] + edges * 3
        minutes = [minute for minute in minutes if minute <= behind]
        return deed, [rng.choice([minute for minute in minutes if minute >= kept.now])]
    if deed == "drop":
        if not kept.told.wishes:
            return "cloud", []
        return deed, [rng.choice(sorted(kept.told.wishes) + [name for name, _ in kept.held()] * 3)]
    return deed, []
