"""The sky: A2, M2, M3 and nightdeal/sky.py."""

import random
import unittest

import plain
import things
from nightdeal.errors import BadSky, NoSuch
from nightdeal.marks import Mark
from nightdeal.sky import Sky
from nightdeal.stretches import are_stretches

LAST = 10 ** 6
LETTERS = "abcdefghijklmnopqrstuvwxyz"
MARK = Mark(100, 3, 20, 50)
# spans: from the first minute, none, one minute, the wrong way about, as long as may be, at the last minute
SPANS = [
    (0, 0), (0, 1), (0, 200), (7, 7), (8, 7), (3, 23), (2, 24), (4, 22), (1000, 3000), (2999, 3001), (500, 0),
    (LAST - 150, LAST), (LAST, LAST),
]


def sky_of(mark, *moons):
    return Sky({"m": mark}, list(moons))


class WindowsTest(unittest.TestCase):

    def check(self, mark, *moons):
        sky = sky_of(mark, *moons)
        for begin, behind in SPANS:
            wanted = plain.windows(mark, moons, begin, behind)
            self.assertEqual(sky.windows("m", begin, behind), wanted, (begin, behind))

    def test_without_a_moon(self):
        for mark in (MARK, Mark(0, 0, 1, 1), Mark(0, 0, 1, 2), Mark(5, 49, 50, 50), Mark(5, 2999, 1500, 3000)):
            self.check(mark)
        self.assertEqual(sky_of(MARK).windows("m", 0, 100), [(3, 23), (53, 73)])

    def test_a_moon_at_the_mark_s_own_place(self):
        for reach in (0, 1, 180):
            self.check(MARK, (Mark(100, 10, 5, 50), reach))
        told = sky_of(MARK, (Mark(100, 10, 5, 50), 0)).windows("m", 0, 50)
        self.assertEqual(told, [(3, 10), (15, 23)])

    def test_the_mark_itself_as_a_moon(self):
        self.check(MARK, (MARK, 0))
        self.assertEqual(sky_of(MARK, (MARK, 0)).windows("m", 0, 2000), [])

    def test_a_moon_just_as_far_as_its_reach_and_one_further(self):
        # to both sides, round about, and the farthest that there is
        for place, moon, far in (
            (100, 130, 30), (130, 100, 30), (5, 355, 10), (355, 5, 10), (0, 180, 180), (10, 191, 179), (100, 101, 1),
        ):
            mark, shine = Mark(place, 3, 20, 50), Mark(moon, 10, 5, 50)
            blind = [(3, 10), (15, 23)]
            self.assertEqual(sky_of(mark, (shine, far)).windows("m", 0, 50), blind)
            self.assertEqual(sky_of(mark, (shine, far - 1)).windows("m", 0, 50), [(3, 23)])
            self.check(mark, (shine, far))
            self.check(mark, (shine, far - 1))

    def test_each_way_round(self):
        shine = Mark(20, 0, 3, 3)
        for place in range(360):
            for reach in (0, 45, 179, 180):
                told = sky_of(Mark(place, 0, 3, 3), (shine, reach)).windows("m", 0, 9)
                self.assertEqual(told, [] if plain.apart(place, 20) <= reach else [(0, 9)])

    def test_how_moons_may_lie_over_a_window(self):
        # ahead of it, touching, over either end, within, the whole of it, behind it
        for first, high in (
            (0, 2), (0, 3), (0, 4), (3, 1), (5, 10), (20, 3), (22, 1), (22, 9), (23, 9), (24, 9), (3, 20), (2, 22),
            (49, 4), (49, 50), (0, 50), (30, 23), (30, 24), (30, 43),
        ):
            self.check(MARK, (Mark(100, first, high, 50), 10))

    def test_moons_whose_turns_differ(self):
        for turn in (1, 2, 3, 7, 49, 51, 100, 777, 3000):
            for high in sorted({1, (turn + 1) // 2, turn}):
                self.check(MARK, (Mark(110, turn // 2, high, turn), 10))

    def test_several_at_once(self):
        one, two, three = Mark(90, 0, 5, 30), Mark(110, 8, 5, 35), Mark(100, 12, 3, 19)
        self.check(MARK, (one, 10), (two, 10))
        self.check(MARK, (one, 10), (two, 9))
        self.check(MARK, (one, 10), (two, 10), (three, 0))
        self.check(MARK, (one, 9), (two, 9), (three, 0))
        # moons that touch, and that lie over one another
        self.check(MARK, (Mark(100, 5, 4, 50), 0), (Mark(100, 9, 4, 50), 0))
        self.check(MARK, (Mark(100, 5, 9, 50), 0), (Mark(100, 9, 9, 50), 0), (Mark(100, 5, 9, 50), 0))
        self.check(MARK, (Mark(100, 0, 10, 50), 0), (Mark(100, 10, 40, 50), 0))

    def test_any_of_three_moons_blinds(self):
        far, near = (Mark(280, 0, 1, 1), 179), (Mark(280, 10, 5, 50), 180)
        for moons in ((near, far, far), (far, near, far), (far, far, near)):
            self.assertEqual(sky_of(MARK, *moons).windows("m", 0, 50), [(3, 10), (15, 23)])

    def test_marks_of_one_sky_each_by_its_own_place(self):
        sky = Sky({"near": Mark(10, 0, 9, 9), "far": Mark(40, 0, 9, 9)}, [(Mark(0, 3, 2, 9), 20)])
        self.assertEqual(sky.windows("near", 0, 9), [(0, 3), (5, 9)])
        self.assertEqual(sky.windows("far", 0, 9), [(0, 9)])

    def test_by_chance(self):
        chance = random.Random(5)

        def some_mark():
            turn = chance.choice([1, 2, 5, 12, 40, 99])
            return Mark(chance.randrange(360), chance.randrange(turn), chance.randint(1, turn), turn)

        for _ in range(400):
            mark = some_mark()
            moons = [(some_mark(), chance.choice([0, 60, 120, 180])) for _ in range(chance.randrange(4))]
            begin = chance.choice([0, 1, 50, 2999, LAST - 200])
            behind = begin + chance.choice([0, 1, 13, 100, 199])
            told = sky_of(mark, *moons).windows("m", begin, behind)
            self.assertEqual(told, plain.windows(mark, moons, begin, behind))
            self.assertTrue(are_stretches(told))

    def test_spans_beyond_the_limit_raise_nothing(self):
        mark, moon = Mark(0, 0, 1, 2), Mark(0, 0, 1, 6)
        told = sky_of(mark, (moon, 0)).windows("m", 0, 9000)
        self.assertEqual(told, plain.windows(mark, [(moon, 0)], 0, 9000))
        # nothing is promised of these but that
        sky_of(mark, (moon, 0)).windows("m", LAST - 5, LAST + 7)
        sky_of(mark, (moon, 0)).windows("m", -5, 5)

    def test_what_is_told_is_the_asker_s_own(self):
        for moons in ([], [(Mark(280, 10, 5, 50), 180)], [(Mark(280, 10, 5, 50), 5)]):
            sky = sky_of(MARK, *moons)
            for begin, behind in ((0, 50), (23, 50), (9, 9)):
                told = sky.windows("m", begin, behind)
                kept = list(told)
                self.assertIsInstance(told, list)
                self.assertIsNot(sky.windows("m", begin, behind), told)
                told.append((60, 70))
                del told[0]
                self.assertEqual(sky.windows("m", begin, behind), kept)

    def test_no_such_mark(self):
        sky = sky_of(MARK)
        for name in things.all_kinds() + ["n", "mm", "M", "m ", b"m", ("m",), ["m"]]:
            for begin, behind in ((0, 50), (5, 5), (5, 0)):
                with self.assertRaises(NoSuch):
                    sky.windows(name, begin, behind)


class TurningTest(unittest.TestCase):

    def setUp(self):
        places = {"a": 10, "b": 40, "c": 350, "d": 190, "e": 10, "f": 191}
        self.marks = {name: Mark(place, 0, 1, 1) for name, place in places.items()}
        self.sky = Sky(self.marks, [])

    def test_from_no_mark_and_to_itself_it_takes_none(self):
        for name in self.sky.names():
            for speed, settle in ((1, 0), (1, 30), (360, 30), (7, 5)):
                self.assertEqual(self.sky.turning(None, name, speed, settle), 0)
                self.assertEqual(self.sky.turning(name, name, speed, settle), 0)

    def test_some(self):
        for one, other, speed, settle, wanted in (
            ("a", "b", 30, 0, 1), ("a", "b", 29, 0, 2), ("a", "b", 31, 0, 1), ("a", "b", 10, 0, 3),
            ("a", "b", 1, 0, 30), ("a", "b", 14, 4, 7), ("b", "a", 14, 4, 7),
            ("a", "c", 20, 0, 1), ("c", "a", 19, 0, 2), ("a", "c", 1, 2, 22),
            ("a", "d", 1, 0, 180), ("d", "a", 360, 0, 1), ("a", "f", 1, 0, 179), ("f", "a", 1, 30, 209),
        ):
            self.assertEqual(self.sky.turning(one, other, speed, settle), wanted, (one, other, speed, settle))

    def test_another_mark_at_the_same_place_takes_settle_minutes(self):
        for settle in (0, 1, 30):
            self.assertEqual(self.sky.turning("a", "e", 7, settle), settle)
        twice = Sky({"a": MARK, "b": MARK}, [])
        self.assertEqual(twice.turning("a", "b", 7, 5), 5)

    def test_all_ways_at_all_speeds(self):
        for one in self.marks:
            for other in self.marks:
                for speed in list(range(1, 40)) + [89, 90, 91, 179, 180, 181, 359, 360]:
                    wanted = plain.turning(self.marks[one].place, self.marks[other].place, speed, 3)
                    told = self.sky.turning(one, other, speed, 3)
                    self.assertEqual(told, 0 if one == other else wanted, (one, other, speed))

    def test_beyond_the_limits_it_raises_nothing(self):
        for speed, settle in ((0, 0), (-1, 0), (361, 31), (10 ** 9, 10 ** 9), (1, -1)):
            self.sky.turning("a", "b", speed, settle)

    def test_no_such_mark(self):
        for thing in things.all_kinds() + ["g", "A", b"a", ("a",), ["a"]]:
            if isinstance(thing, str) and thing == "a":
                continue
            if thing is not None:
                with self.assertRaises(NoSuch):
                    self.sky.turning(thing, "a", 1, 0)
            for one in (None, "a", thing):
                with self.assertRaises(NoSuch):
                    self.sky.turning(one, thing, 1, 0)


class NamesTest(unittest.TestCase):

    def test_names_rise(self):
        marks = {name: MARK for name in ("b", "ab", "a", "zz", "aa", "z", "aab", "abcdefgh")}
        wanted = ["a", "aa", "aab", "ab", "abcdefgh", "b", "z", "zz"]
        for names in (list(marks), wanted, wanted[::-1]):
            self.assertEqual(Sky({name: marks[name] for name in names}, []).names(), wanted)

    def test_names_told_are_the_asker_s_own(self):
        sky = Sky({"a": MARK, "b": MARK}, [])
        told = sky.names()
        told.reverse()
        told.append("c")
        self.assertEqual(sky.names(), ["a", "b"])
        self.assertIsInstance(sky.names(), list)

    def test_marks_as_they_were_handed_in(self):
        marks = {"b": Mark(1, 0, 1, 1), "a": Mark(1, 0, 1, 1), "c": MARK}
        sky = Sky(marks, [])
        for name, mark in marks.items():
            self.assertIs(sky.mark(name), mark)

    def test_no_such_mark(self):
        sky = Sky({"b": MARK}, [])
        for thing in things.all_kinds() + ["B", "bb", "b ", b"b", ("b",), ["b"], {"b": 1}, {"b"}]:
            with self.assertRaises(NoSuch):
                sky.mark(thing)


class KeptTest(unittest.TestCase):

    def test_emptied_behind(self):
        marks = {"a": MARK, "b": Mark(5, 0, 1, 1)}
        moons = [(MARK, 7), (Mark(6, 0, 1, 1), 180)]
        sky = Sky(marks, moons)
        kept, shone, windows = dict(marks), tuple(moons), sky.windows("a", 0, 50)
        marks["c"] = MARK
        marks["a"] = Mark(200, 0, 1, 1)
        moons.append((MARK, 180))
        self.assertEqual((sky.names(), sky.moons), (["a", "b"], shone))
        marks.clear()
        moons.clear()
        self.assertEqual(sky.names(), ["a", "b"])
        self.assertEqual(sky.moons, shone)
        self.assertEqual(sky.windows("a", 0, 50), windows)
        for name, mark in kept.items():
            self.assertIs(sky.mark(name), mark)
        for (mark, reach), (wanted, far) in zip(sky.moons, shone):
            self.assertIs(mark, wanted)
            self.assertEqual(reach, far)

    def test_what_is_handed_in_stays(self):
        marks, moons = {"b": MARK, "a": MARK}, [(MARK, 7)]
        sky = Sky(marks, moons)
        sky.names(), sky.windows("a", 0, 50), sky.turning("a", "b", 1, 0)
        self.assertEqual((list(marks.items()), moons), ([("b", MARK), ("a", MARK)], [(MARK, 7)]))

    def test_moons_are_a_tuple_only_read(self):
        for moons in ([], [(MARK, 0)], [(MARK, 0), (MARK, 0)], [(MARK, 180), (Mark(1, 0, 1, 1), 3), (MARK, 0)]):
            sky = Sky({"a": MARK}, moons)
            self.assertIsInstance(sky.moons, tuple)
            self.assertEqual(sky.moons, tuple(moons))
            with self.assertRaises(AttributeError):
                sky.moons = ()
            with self.assertRaises(AttributeError):
                del sky.moons
            self.assertEqual(sky.moons, tuple(moons))


class BadSkyTest(unittest.TestCase):

    def refused(self, marks, moons):
        with self.assertRaises(BadSky):
            Sky(marks, moons)

    def test_how_many_marks(self):
        for many in (1, 2, 11, 12):
            self.assertEqual(Sky({letter: MARK for letter in LETTERS[:many]}, []).names(), list(LETTERS[:many]))
        self.refused({}, [])
        self.refused({letter: MARK for letter in LETTERS[:13]}, [])
        self.refused({letter: MARK for letter in LETTERS}, [])

    def test_marks_of_any_kind(self):
        for thing in things.all_kinds():
            self.refused(thing, [])
            self.refused(thing, thing)
        self.refused([("a", MARK)], [])
        self.refused([MARK], [])
        self.refused((("a", MARK),), [])

    def test_a_name_that_is_none(self):
        for thing in things.not_names() + ["A", "abcdefghi", "a b", "a1"]:
            try:
                bad = {thing: MARK}
            except (TypeError, RuntimeError):
                continue
            self.refused(bad, [])
            self.refused({"b": MARK} | bad, [])
        self.assertEqual(Sky({"abcdefgh": MARK}, []).names(), ["abcdefgh"])

    def test_no_mark(self):
        for thing in things.not_of(Mark) + [(0, 0, 1, 1), (MARK, 0)]:
            self.refused({"a": thing}, [])
            self.refused({"a": MARK, "b": thing}, [])
            self.refused({"b": thing, "a": MARK}, [])

    def test_how_many_moons(self):
        for many in range(4):
            self.assertEqual(len(Sky({"a": MARK}, [(MARK, 0)] * many).moons), many)
        self.refused({"a": MARK}, [(MARK, 0)] * 4)
        self.refused({"a": MARK}, [(MARK, 0)] * 100)

    def test_moons_of_any_kind(self):
        for thing in things.not_of(list) + [[thing] for thing in things.all_kinds()]:
            self.refused({"a": MARK}, thing)
        for thing in (((MARK, 0),), {(MARK, 0): 1}, {(MARK, 0)}, iter([(MARK, 0)]), (MARK, 0), {"a": MARK}):
            self.refused({"a": MARK}, thing)

    def test_a_moon_that_is_no_tuple_of_a_mark_and_a_reach(self):
        for moon in ([MARK, 0], (MARK,), (MARK, 0, 0), (0, MARK), (), MARK, ((MARK, 0),), (0, 0, 1, 1, 5), {MARK: 0}):
            self.refused({"a": MARK}, [moon])
            self.refused({"a": MARK}, [(MARK, 0), moon])
            self.refused({"a": MARK}, [moon, (MARK, 0)])
        for thing in things.not_of(Mark):
            self.refused({"a": MARK}, [(thing, 0)])
            self.refused({"a": MARK}, [(MARK, 0), (thing, 0)])

    def test_reach(self):
        for reach in (0, 1, 179, 180):
            self.assertEqual(Sky({"a": MARK}, [(MARK, reach)]).moons, ((MARK, reach),))
        for reach in things.not_numbers() + things.far_numbers() + [-1, 181, "5"]:
            self.refused({"a": MARK}, [(MARK, reach)])
            self.refused({"a": MARK}, [(MARK, 5), (MARK, 5), (MARK, reach)])
