"""The desk: a season led by lines, each answered with a text."""

from nightdeal.best import best
from nightdeal.blocked import blocked
from nightdeal.errors import BadDeed, BadNumber, NoSuch
from nightdeal.numbers import number_of
from nightdeal.rules import wrong
from nightdeal.season import WAYS, Season
from nightdeal.texts import read_book


def way_of(word):
    """The way of dealing that a word tells, or None."""
    return word if word in WAYS else None


def minute_of(word):
    """The minute that a word tells, or None."""
    try:
        return number_of(word)
    except BadNumber:
        return None


def name_of(word):
    """The name that a word tells: any word at all."""
    return word


def look_of(word):
    """The look that a word tells, or None."""
    # without an @ nothing is left for the minute
    name, _, figures = word.partition("@")
    begin = minute_of(figures)
    return None if begin is None else (name, begin)


def looks_text(looks):
    """Looks, written."""
    return " ".join([f"{name}@{begin}" for name, begin in looks]) or "-"


def lost(ahead, behind):
    """The looks that were there ahead, and are there no more behind."""
    return looks_text([look for look in ahead if look not in behind])


def need_night(season):
    """Refuse what asks for the night that is on behind the last one."""
    if season.over():
        raise BadDeed("all is over")


def answer_deal(season, told):
    """The planned looks, dealt anew."""
    season.deal(told[0])
    return looks_text(season.planned())


def answer_plan(season, told):
    """The planned looks."""
    return looks_text(season.planned())


def answer_go(season, told):
    """The looks that were done by going on to a minute."""
    ahead = season.planned()
    season.go(told[0])
    return lost(ahead, season.planned())


def answer_drop(season, told):
    """The looks that were lost by giving a wish back."""
    ahead = season.planned()
    season.drop(told[0])
    return lost(ahead, season.planned())


def answer_cloud(season, told):
    """The looks that were lost by a cloud."""
    ahead = season.planned()
    season.cloud()
    return lost(ahead, season.planned())


def answer_close(season, told):
    """The night that is on behind the one that was."""
    season.close()
    return "over" if season.over() else f"night {season.night()}"


def answer_done(season, told):
    """All looks that were done, by their begins, then by names."""
    looks = [(begin, name) for name, begins in season.done().items() for begin in begins]
    return looks_text([(name, begin) for begin, name in sorted(looks)])


def answer_best(season, told):
    """The worth of the best rest of the night."""
    need_night(season)
    worth, _ = best(season.book_now(), season.counted(), season.night(), season.since())
    return str(worth)


def answer_blocked(season, told):
    """As few of the names as can't be done together in the night that is on."""
    need_night(season)
    names = blocked(season.book_now(), season.done(), season.night(), told)
    return "-" if names is None else " ".join(names)


def answer_check(season, told):
    """The first of the looks that can't stand in the rest of the night, and why."""
    need_night(season)
    first = wrong(season.book_now(), season.counted(), season.night(), told, season.since())
    if first is None:
        return "let by"
    place, word = first
    return f"{place} {word}"


# the lines of one word
ALONE = ("plan", "cloud", "close", "done", "best")
# what the words behind the first one of the other lines tell
READS = {"deal": way_of, "go": minute_of, "drop": name_of, "blocked": name_of, "check": look_of}
# the lines that may have several such words
SEVERAL = ("blocked", "check")
ANSWERS = {
    "deal": answer_deal, "plan": answer_plan, "go": answer_go, "drop": answer_drop, "cloud": answer_cloud,
    "close": answer_close, "done": answer_done, "best": answer_best, "blocked": answer_blocked, "check": answer_check,
}


def told_by(words):
    """What the words behind a line's first one tell, or None where this is no line."""
    word = words[0]
    rest = words[1:]
    if word in ALONE:
        return None if rest else []
    if word not in READS or not rest or (len(rest) > 1 and word not in SEVERAL):
        return None
    read = READS[word]
    told = [read(one) for one in rest]
    return None if None in told else told


class Desk:
    """A desk that leads a season of a book's text."""

    def __init__(self, text):
        self._season = Season(read_book(text))

    def say(self, line):
        """The answer to a line, of any kind."""
        words = line.split(" ") if isinstance(line, str) else [""]
        told = told_by(words)
        if told is None:
            return "bad line"
        answer = ANSWERS[words[0]]
        try:
            return answer(self._season, told)
        except BadDeed:
            return "bad deed"
        except NoSuch:
            return "no such"
