"""The sky: marks by names, and moons that blind them."""

from nightdeal.errors import BadSky
from nightdeal.marks import Mark, far
from nightdeal.numbers import is_among
from nightdeal.stretches import gaps, overlaps
from nightdeal.tables import is_table, named

MOST_MARKS = 12
MOST_MOONS = 3
FARTHEST = 180


def are_marks(thing):
    """Whether anything is a dict of 1 to 12 marks by names."""
    return is_table(thing, MOST_MARKS) and all([isinstance(mark, Mark) for mark in thing.values()])


def is_moon(thing):
    """Whether anything is a tuple of a mark and a reach."""
    if not isinstance(thing, tuple) or len(thing) != 2:
        return False
    mark, reach = thing
    return isinstance(mark, Mark) and is_among(reach, 0, FARTHEST)


def are_moons(thing):
    """Whether anything is a list of 0 to 3 moons."""
    return isinstance(thing, list) and len(thing) <= MOST_MOONS and all([is_moon(moon) for moon in thing])


class Sky:
    """A sky: 1 to 12 marks by names, 0 to 3 moons."""

    def __init__(self, marks, moons):
        if not are_marks(marks):
            raise BadSky("these are no marks of a sky")
        if not are_moons(moons):
            raise BadSky("these are no moons of a sky")
        self._marks = dict(marks)
        self._moons = tuple(moons)

    @property
    def moons(self):
        """The moons, in their order."""
        return self._moons

    def mark(self, name):
        """The mark of a name; NoSuch."""
        return named(self._marks, name)

    def names(self):
        """The names of all marks, rising."""
        return sorted(self._marks)

    def windows(self, name, begin, behind):
        """The stretches at which a mark stands high and no moon blinds it; NoSuch."""
        mark = self.mark(name)
        out = mark.high_in(begin, behind)
        for moon, reach in self._moons:
            if far(moon.place, mark.place) <= reach:
                # not by without(), which refuses more stretches than may be handed in
                out = overlaps(out, gaps(moon.high_in(begin, behind), begin, behind))
        return out

    def turning(self, one, other, speed, settle):
        """How long turning from a mark, or from none, to another one takes; NoSuch."""
        # both are looked up first: what isn't there is refused where turning takes no minute, too
        start = None if one is None else self.mark(one)
        goal = self.mark(other)
        if start is None or one == other:
            return 0
        # a speed below its bounds must not raise an error of Python's own
        pace = max(1, speed)
        way = far(start.place, goal.place)
        return settle + (way + pace - 1) // pace
