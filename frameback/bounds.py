"""The bounds of the numbers that rows are made of, and of code."""

from frameback.errors import NoRow

TOP_BOX = 7
TOP_VALUE = 4294967295
TOP_CELLS = 4000
TOP_TARGET = 2000
TOP_ROWS = 2000


def bounded(number, top):
    """Tell the number as it is, or refuse it with NoRow where it isn't from 0 to top."""
    if number < 0 or number > top:
        # The number isn't shown: one that is very long could not be written.
        raise NoRow(f"not a whole number from 0 to {top}")
    return number
