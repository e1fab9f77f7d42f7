"""Plain ways to tell what the program tells, for the tests to go by."""


def told_as_stretches(minutes):
    """A set of minutes as stretches, put together minute by minute."""
    out = []
    for minute in sorted(minutes):
        if minute - 1 in minutes:
            out[-1] = (out[-1][0], minute + 1)
        else:
            out.append((minute, minute + 1))
    return out
