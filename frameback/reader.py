"""The reader: all callers, told from a table, a row, boxes and a pile alone."""

from frameback.errors import Astray
from frameback.rows import FIRST_CELL_BIT
from frameback.tables import sets_of

MOST_CALLERS = 5000


def lowest_place(places):
    """Tell the lowest place of a set that isn't empty."""
    return (places & -places).bit_length() - 1


def looked_up(places, known, piece):
    """Tell the value at the lowest place of the set, or None where it can't be told."""
    if places <= 0:
        return None
    place = lowest_place(places)
    if place < FIRST_CELL_BIT:
        return known[place]
    cell = place - FIRST_CELL_BIT
    return piece[cell] if cell < len(piece) else None


def newest_caller(entries, at, known, pile):
    """Tell who called the function that stands at the row, or refuse it with Astray."""
    if at < 0 or at >= len(entries) or entries[at] is None:
        raise Astray(at)
    entry = entries[at]
    length = len(pile) - entry[0]
    if length < 0 or length > len(pile):
        raise Astray(at)
    piece = pile[length:]
    found = [looked_up(places, known, piece) for places in sets_of(entry)]
    if None in found:
        raise Astray(at)
    return (found[0], (found[1], found[2], found[3]), length)


def callers(table, row, boxes, pile):
    """Tell all callers, the newest first, each with its row, its kept values and its pile's length."""
    home = len(table.entries)
    told = []
    at = row
    known = list(boxes)
    left = list(pile)
    while at != home:
        if len(told) == MOST_CALLERS:
            raise Astray(at)
        caller = newest_caller(table.entries, at, known, left)
        told.append(caller)
        at = caller[0]
        # Of a caller's boxes only the kept ones are known: the function it called may fill the others as it likes.
        known = [None, None, None, None] + list(caller[1]) + [None]
        left = left[:caller[2]]
    return told
