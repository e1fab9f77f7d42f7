"""Things of all kinds, to be handed in where they are none of what is wanted."""

from nightdeal.book import Book
from nightdeal.desk import Desk
from nightdeal.errors import DealError
from nightdeal.marks import Mark
from nightdeal.season import Season
from nightdeal.sky import Sky
from nightdeal.texts import book_text
from nightdeal.wishes import Wish


class Thorny:
    """An object that fails when it is compared, counted, gone through or shown."""

    def fail(self, *told):
        raise RuntimeError("nobody may ask this of a thing handed in")

    __eq__ = __lt__ = __le__ = __gt__ = __ge__ = __bool__ = __len__ = fail
    __iter__ = __getitem__ = __contains__ = __int__ = __index__ = fail
    __hash__ = __str__ = __repr__ = fail


def itself_within():
    rows = []
    rows.append(rows)
    return rows


def other_kinds():
    """Things that are no whole number, no name and no stretches."""
    return [
        None, True, False, "", " ", "1", "0", "aB", "\n", b"", b"a", (), (1,), (2, 1), {}, {1: 2},
        set(), frozenset(), range(3), object(), object, len, lambda: 0, NotImplemented, ...,
        bytearray(b"a"), iter([]), Thorny(), Thorny, itself_within(),
    ]


def far_numbers():
    """Whole numbers that are out of all bounds, too long to be shown some of them."""
    return [-(10 ** 5000), -(10 ** 9), -1, 10 ** 9, 10 ** 5000]


def own_kinds():
    """Objects and classes of the program itself."""
    mark = Mark(0, 0, 1, 1)
    sky = Sky({"a": mark}, [(mark, 0)])
    wish = Wish("a", "a", "a", 1, 1, 0, 1, (0, 0))
    book = Book(sky, 1, 0, [(0, 1)], {"a": 0}, [wish])
    own = [mark, sky, wish, book, Season(book), Desk(book_text(book)), DealError("a")]
    return own + [Mark, Sky, Wish, Book, Season, Desk, DealError]


def all_kinds():
    """Things of every kind; some of them may be just what is wanted."""
    plain = [0, 1, 5, "a", "abc", [], [[]], ["a"], [None], [(0, 1)], [1, 1], ("a", "a"), (0, 0), (0, 1), {"a": 1}]
    return other_kinds() + far_numbers() + own_kinds() + plain


def not_numbers():
    return [thing for thing in all_kinds() if not isinstance(thing, int) or isinstance(thing, bool)]


def not_names():
    return [thing for thing in all_kinds() if not isinstance(thing, str) or thing not in ("a", "abc")]


def not_of(kinds):
    """Things of every kind, but objects of these."""
    return [thing for thing in all_kinds() if not isinstance(thing, kinds)]
