"""Tables: what is known ahead of each row of a code."""

KEPT_BOXES = (4, 5, 6)
# No piece, the row to go back to in box 7, the values of boxes 4, 5, 6 each in its own box.
START = (0, 128, (16, 32, 64))


class Table:
    """Entries, one for each row of a code, and landings, from call rows to rows."""

    def __init__(self, entries, landings=None):
        self.entries = list(entries)
        self.landings = {} if landings is None else dict(landings)


def sets_of(entry):
    """Tell the four sets of an entry: the one for the way back, then those of boxes 4, 5 and 6."""
    kept = entry[2]
    return (entry[1], kept[0], kept[1], kept[2])
