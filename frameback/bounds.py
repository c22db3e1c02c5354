"""Whole numbers, and the bounds of those that rows are made of, and of code."""

from frameback.errors import NoRow

TOP_BOX = 7
TOP_VALUE = 4294967295
VALUES = 4294967296
TOP_CELLS = 4000
TOP_TARGET = 2000
TOP_ROWS = 2000


def is_whole(number):
    """Tell whether this is a whole number from 0 on."""
    return isinstance(number, int) and not isinstance(number, bool) and number >= 0


def bounded(number, top):
    """Tell the number as it is, or refuse it with NoRow where it isn't from 0 to top."""
    if number < 0 or number > top:
        # The number isn't shown: one that is very long could not be written.
        raise NoRow(f"not a whole number from 0 to {top}")
    return number
