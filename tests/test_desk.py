"""The desk: A2, D1, D2 and nightdeal/desk.py."""

import random
import unittest

import plain_deals
import plain_season
import things
from nightdeal.best import best
from nightdeal.blocked import blocked
from nightdeal.desk import Desk
from nightdeal.errors import BadText
from nightdeal.rules import wrong
from nightdeal.texts import book_text, read_book

# turning between the marks takes 7 minutes
TEXT = """telescope 20 2
mark all 0 0 1 1
mark east 100 0 1 1
night 100 200
night 500 600
watcher ann 1000
watcher bob 1000
wish arc ann all 25 1 0 2 0 0
wish bow bob east 20 1 0 9 0 1
wish cup ann all 30 2 10 3 0 1"""
NO_LINES = [
    # words that lack, and one more
    "", "deal", "go", "drop", "blocked", "check", "deal best fair", "deal best best", "plan 5", "plan plan",
    "go 120 130", "drop arc bow", "cloud 5", "close 1", "done arc", "best arc", "best best",
    # other words, great letters
    "deal worst", "deal Best", "Deal best", "PLAN", "Go 120", "deals best", "stop", "help", "wish arc", "night", "over",
    "bestfair", "deal best,fair", "deal 1", "go best", "let by", "-",
    # blanks too many or at an end
    " ", "  ", " plan", "plan ", "deal  best", "deal best ", " deal best", "deal ", "go  120", "go 120 ", " go 120",
    "go ", "drop  arc", "drop arc ", " drop arc", "cloud ", "close ", "done ", "best ", "check ", "check  arc@130",
    "check arc@130 ", "check arc@130  bow@150", " check arc@130", " blocked arc", "drop  ",
    # numbers
    "go 0120", "go 00", "go +120", "go -1", "go 12345678", "go 00000120", "go 1_2", "go 1.5", "go 0x9", "go one",
    "go 1e2", "go \u0661", "go \u00b2", "go \uff11\uff12\uff10", "check arc@0130", "check arc@+130", "check arc@-1",
    "check arc@12345678", "check arc@", "check arc@1_0", "check arc@x", "check @", "check arc@130 bow@",
    # looks without @, or with one more
    "check arc", "check 130", "check arc 130", "check arc@130 bow", "check arc@130@5", "check arc@bow@130", "check @@5",
    # line ends
    "plan\n", "\nplan", "deal best\n", "go 120\n", "go\n120", "done\r", "best\n", "cloud\n", "close\n", "plan\ndone",
    "check arc@130\n", "\n", "plan\t", "deal\tbest",
]


def desk(*lines):
    """A desk to which these lines were said."""
    out = Desk(TEXT)
    for line in lines:
        out.say(line)
    return out


def told(one):
    """What a desk tells without changing anything."""
    asked = ("plan", "done", "best", "blocked arc bow cup", "check cup@130", "check nobody@1", "check bow@155")
    return [one.say(line) for line in asked]


class LineTest(unittest.TestCase):

    def answers(self, *rows):
        """Whether a desk answers lines so, one behind the other."""
        one = Desk(TEXT)
        for line, answer in rows:
            self.assertEqual(one.say(line), answer, line)

    def test_at_first(self):
        self.answers(("plan", "-"), ("done", "-"), ("best", "14"), ("go 100", "-"), ("cloud", "-"))

    def test_deal_and_plan(self):
        self.answers(
            ("deal fair", "cup@100 bow@137 arc@164"), ("plan", "cup@100 bow@137 arc@164"),
            ("go 157", "cup@100 bow@137"), ("plan", "arc@164"), ("cloud", "arc@164"), ("plan", "-"),
            ("deal best", "cup@164"), ("plan", "cup@164"),
        )
        looks = best(read_book(TEXT), {}, 0)[1]
        self.assertEqual(desk().say("deal best"), " ".join(f"{name}@{begin}" for name, begin in looks))
        self.assertEqual(desk("go 200").say("deal best"), "-")
        self.assertEqual(desk("go 200").say("deal fair"), "-")

    def test_go(self):
        self.answers(
            ("deal fair", "cup@100 bow@137 arc@164"), ("go 129", "-"), ("go 130", "cup@100"), ("go 130", "-"),
            ("go 164", "bow@137"), ("go 200", "arc@164"), ("go 199", "bad deed"), ("go 201", "bad deed"),
            ("go 9999999", "bad deed"), ("go 0", "bad deed"), ("go 200", "-"),
        )
        self.assertEqual(desk("deal fair").say("go 200"), "cup@100 bow@137 arc@164")

    def test_drop(self):
        self.answers(
            ("deal fair", "cup@100 bow@137 arc@164"), ("drop arc", "arc@164"), ("drop arc", "no such"),
            ("go 110", "-"), ("drop cup", "cup@100"), ("plan", "bow@137"), ("drop nobody", "no such"),
            ("drop ", "no such"), ("drop BOW", "no such"), ("drop 5", "no such"), ("drop bow@137", "no such"),
            ("drop all", "no such"), ("cloud", "bow@137"), ("drop bow", "-"), ("best", "0"), ("deal best", "-"),
        )

    def test_drop_a_wish_that_is_planned_twice(self):
        one = Desk(TEXT.replace("cup ann all 30 2", "cup ann all 20 3"))
        self.assertEqual(one.say("deal fair"), "cup@100 bow@127 arc@154")
        self.assertEqual(one.say("go 101"), "-")
        self.assertEqual(one.say("deal fair"), "cup@100 bow@127 cup@154 arc@174")
        self.assertEqual(one.say("drop cup"), "cup@100 cup@154")
        self.assertEqual(one.say("plan"), "bow@127 arc@174")

    def test_cloud(self):
        self.answers(
            ("deal fair", "cup@100 bow@137 arc@164"), ("go 138", "cup@100"), ("cloud", "bow@137 arc@164"),
            ("cloud", "-"), ("plan", "-"), ("done", "cup@100"), ("check bow@138", "let by"),
            ("check arc@144", "0 turn"), ("check arc@145", "let by"),
        )

    def test_close(self):
        self.answers(
            ("deal fair", "cup@100 bow@137 arc@164"), ("close", "night 1"), ("done", "cup@100 bow@137 arc@164"),
            ("plan", "-"), ("best", "3"), ("deal best", "cup@500"), ("close", "over"), ("close", "bad deed"),
            ("done", "cup@100 bow@137 arc@164 cup@500"), ("plan", "-"),
        )

    def test_done_by_begins(self):
        self.assertEqual(desk("deal fair", "close").say("done"), "cup@100 bow@137 arc@164")
        # of wishes that were given back, too
        self.assertEqual(desk("deal fair", "go 200", "drop bow", "drop cup").say("done"), "cup@100 bow@137 arc@164")
        # a look under way isn't done
        self.assertEqual(desk("deal fair", "go 138").say("done"), "cup@100")

    def test_best(self):
        self.answers(
            ("best", "14"), ("deal fair", "cup@100 bow@137 arc@164"), ("best", "14"), ("go 101", "-"),
            ("best", "12"), ("go 138", "cup@100"), ("best", "3"), ("drop cup", "-"), ("best", "2"),
        )

    def test_blocked(self):
        self.answers(
            ("blocked arc", "-"), ("blocked cup arc bow", "-"), ("blocked nobody", "no such"), ("blocked ", "no such"),
            ("blocked arc ", "no such"), ("blocked  arc", "no such"), ("blocked arc arc", "no such"),
            ("blocked ARC", "no such"), ("blocked ann", "no such"), ("blocked arc nobody", "no such"),
            ("deal fair", "cup@100 bow@137 arc@164"), ("go 138", "cup@100"),
            # in the whole night, by what was done: a look under way isn't counted
            ("blocked cup bow arc", "-"), ("blocked bow", "-"), ("go 157", "bow@137"), ("blocked arc bow", "bow"),
            ("drop arc", "arc@164"), ("blocked arc", "no such"), ("close", "night 1"), ("blocked cup bow", "bow"),
            ("blocked arc", "no such"), ("blocked cup", "-"),
        )
        one = Desk(TEXT.replace("night 100 200", "night 100 150"))
        self.assertEqual(one.say("blocked arc bow cup"), "arc bow")
        self.assertEqual(one.say("blocked cup bow"), "bow cup")

    def test_check(self):
        self.answers(
            ("check cup@100", "let by"), ("check cup@100 bow@137 arc@164", "let by"), ("check cup@99", "0 dark"),
            ("check cup@100 bow@136", "1 turn"), ("check @100", "0 wish"), ("check cup@100 @130", "1 wish"),
            ("check CUP@100", "0 wish"), ("check cup@100 cup@150", "1 twice"), ("check cup@9999999", "0 dark"),
            ("check cup@0", "0 dark"), ("deal fair", "cup@100 bow@137 arc@164"), ("go 120", "-"),
            # behind the look under way, and counting it
            ("check bow@136", "0 turn"), ("check bow@137", "let by"), ("check cup@139", "0 apart"),
            ("check cup@140", "let by"), ("check bow@129", "0 dark"), ("go 200", "cup@100 bow@137 arc@164"),
            ("check bow@200", "0 times"), ("close", "night 1"), ("check arc@500", "0 night"),
            ("check cup@500", "let by"),
        )

    def test_behind_the_last_night(self):
        one = desk("deal fair", "close", "close")
        for line in (
            "deal best", "deal fair", "go 600", "go 601", "go 0", "drop arc", "drop nobody", "drop ", "cloud", "close",
            "best", "blocked arc", "blocked nobody", "blocked ", "blocked arc arc", "check arc@500", "check @0",
            "check nobody@5 arc@5",
        ):
            self.assertEqual(one.say(line), "bad deed", line)
        self.assertEqual((one.say("plan"), one.say("done")), ("-", "cup@100 bow@137 arc@164"))
        self.assertEqual((desk("close", "close").say("done")), "-")


class BadLineTest(unittest.TestCase):

    def test_no_lines(self):
        for lines in ((), ("deal fair", "go 138"), ("deal fair", "close", "close")):
            one, other = desk(*lines), desk(*lines)
            for line in NO_LINES:
                self.assertEqual(one.say(line), "bad line", line)
            self.assertEqual(told(one), told(other))

    def test_things_of_other_kinds(self):
        kinds = [thing for thing in things.all_kinds() if not isinstance(thing, str)]
        kinds.extend([b"plan", ["plan"], ("deal", "best"), {"plan": 1}, ["deal", "best"], bytearray(b"plan")])
        for lines in ((), ("close", "close")):
            one = desk(*lines)
            for thing in kinds:
                self.assertEqual(one.say(thing), "bad line")

    def test_names_of_any_word(self):
        for line in ("drop a\n", "drop a@5", "drop -", "drop \n"):
            self.assertEqual(desk().say(line), "no such")
        self.assertEqual(desk().say("check a\n@5"), "0 wish")
        self.assertEqual(desk().say("blocked arc\n"), "no such")


class RefusedTest(unittest.TestCase):

    def test_nothing_changes(self):
        for lines in ((), ("deal fair", "go 138"), ("deal best", "go 101", "drop arc")):
            one, other = desk(*lines), desk(*lines)
            for line in ("go 99", "go 201", "drop nobody", "drop ", "blocked nobody", "blocked arc arc", "go 0"):
                self.assertIn(one.say(line), ("bad deed", "no such"))
            self.assertEqual(told(one), told(other))
            self.assertEqual(one.say("close"), other.say("close"))
            self.assertEqual(told(one), told(other))

    def test_no_book_s_text(self):
        rows = TEXT.split("\n")
        for text, line in (
            ("", 0), ("telescope 20 2", 1), (TEXT + "\n", len(rows)),
            (TEXT.replace("night 500", "night 200"), 4), (TEXT.replace("cup ann", "cup cy"), 9),
            ("\n".join(rows[:5]), 5), (TEXT + " ", 9), (TEXT.replace("arc", "dot"), 8),
        ):
            with self.assertRaises(BadText) as refusal:
                Desk(text)
            self.assertEqual(refusal.exception.line, line)
            with self.assertRaises(BadText) as wanted:
                read_book(text)
            self.assertEqual(wanted.exception.line, line)

    def test_no_text(self):
        for thing in things.all_kinds():
            if not isinstance(thing, str):
                with self.assertRaises(BadText) as refusal:
                    Desk(thing)
                self.assertIsNone(refusal.exception.line)

    def test_two_desks_of_one_text(self):
        one, other = desk("deal fair"), desk()
        self.assertEqual((one.say("go 200"), other.say("done")), ("cup@100 bow@137 arc@164", "-"))


def written(looks):
    return " ".join(f"{name}@{begin}" for name, begin in looks) or "-"


class PlainTest(unittest.TestCase):

    def deed(self, one, kept, rng):
        """One deed at a desk, and in a plain season: its answer, and what it should be."""
        deed, given = plain_season.random_deed(rng, kept)
        ahead, finished = list(kept.plan), len(kept.looks)
        answer = one.say(" ".join([deed] + [str(thing) for thing in given]))
        getattr(kept, deed)(*given)
        if deed == "deal":
            return answer, written(kept.plan)
        if deed == "go":
            return answer, written(kept.looks[finished:])
        if deed == "close":
            return answer, "over" if kept.number == len(kept.told.nights) else f"night {kept.number}"
        return answer, written([look for look in ahead if look not in kept.plan])

    def asked(self, one, kept, rng):
        """What a desk tells of the rest of a night, and what it should."""
        book, counted = kept.told.book(), kept.state()["counted"]
        yield one.say("best"), str(best(book, counted, kept.number, kept.from_where())[0])
        names = kept.told.wanted(kept.number)
        if names:
            rng.shuffle(names)
            some = blocked(book, kept.state()["done"], kept.number, names)
            yield one.say("blocked " + " ".join(names)), "-" if some is None else " ".join(some)
        row = rng.choice(list(kept.told.rows(counted, kept.number, kept.from_where())))
        row.append((rng.choice("abcdefgh"), rng.randint(*kept.told.nights[kept.number])))
        first = wrong(book, counted, kept.number, row, kept.from_where())
        yield one.say("check " + written(row)), "let by" if first is None else f"{first[0]} {first[1]}"

    def test_against_a_plain_keeping(self):
        rng = random.Random(61)
        for told_book, _, _ in plain_deals.books(62, 60, 40, 4, 2):
            one = Desk(book_text(told_book.book()))
            # as the text has them: by the same order which of several best rows is told is the same
            kept = plain_season.PlainSeason(told_book.rising())
            while kept.number < len(told_book.nights):
                self.assertEqual(*self.deed(one, kept, rng))
                self.assertEqual(one.say("plan"), written(kept.plan))
                self.assertEqual(one.say("done"), written(sorted(kept.looks, key=lambda look: look[::-1])))
                if kept.number < len(told_book.nights) and rng.random() < 0.2:
                    for answer, wanted in self.asked(one, kept, rng):
                        self.assertEqual(answer, wanted)
