"""Things of all kinds, to be handed in where they are none of what is wanted."""


class Thorny:
    """An object that fails when it is compared, counted, gone through or shown."""

    def fail(self, *told):
        raise RuntimeError("nobody may ask this of a thing handed in")

    __eq__ = __lt__ = __le__ = __gt__ = __ge__ = __bool__ = __len__ = fail
    __iter__ = __getitem__ = __contains__ = __int__ = __index__ = fail
    __hash__ = __str__ = __repr__ = fail


def itself_within():
    rows = []
    rows.append(rows)
    return rows


def other_kinds():
    """Things that are no whole number, no name and no stretches."""
    return [
        None, True, False, "", " ", "1", "0", "aB", "\n", b"", b"a", (), (1,), (2, 1), {}, {1: 2},
        set(), frozenset(), range(3), object(), object, len, lambda: 0, NotImplemented, ...,
        bytearray(b"a"), iter([]), Thorny(), Thorny, itself_within(),
    ]


def far_numbers():
    """Whole numbers that are out of all bounds, too long to be shown some of them."""
    return [-(10 ** 5000), -(10 ** 9), -1, 10 ** 9, 10 ** 5000]
