"""What several tests ask of the fifteen kinds of rows."""

from frameback.rows import Add, Copy, Get, Grow, Less, Mul, Put, Set, Shrink, Sub
from frameback.ways import Back, Branch, Call, Drop, Jump

BOX = 7
VALUE = 4294967295
CELLS = 4000
TARGET = 2000

# Each kind with its word and the greatest of each number that it can be made of.
KINDS = [
    (Set, "set", (BOX, VALUE)),
    (Copy, "copy", (BOX, BOX)),
    (Add, "add", (BOX, BOX, BOX)),
    (Sub, "sub", (BOX, BOX, BOX)),
    (Mul, "mul", (BOX, BOX, BOX)),
    (Less, "less", (BOX, BOX, BOX)),
    (Grow, "grow", (CELLS,)),
    (Shrink, "shrink", (CELLS,)),
    (Put, "put", (BOX, CELLS)),
    (Get, "get", (BOX, CELLS)),
    (Jump, "jump", (TARGET,)),
    (Branch, "branch", (BOX, TARGET)),
    (Call, "call", (TARGET,)),
    (Back, "back", (BOX,)),
    (Drop, "drop", (BOX,)),
]

WITH_TARGET = ("jump", "branch", "call")

BOXES = [10, 11, 12, 13, 14, 15, 16, 17]


def sample_rows():
    """Two rows of each kind that can be done on a pile of three cells."""
    return [
        Set(0, 5), Set(7, 0), Copy(1, 6), Copy(2, 2), Add(1, 2, 3), Add(4, 4, 4),
        Sub(0, 6, 1), Sub(2, 2, 2), Mul(5, 0, 7), Mul(3, 3, 3), Less(6, 1, 2), Less(0, 0, 0),
        Grow(0), Grow(2), Shrink(0), Shrink(3), Put(4, 0), Put(7, 2), Get(0, 0), Get(6, 1),
        Jump(0), Jump(9), Branch(0, 4), Branch(5, 8), Call(12), Call(0), Back(7), Back(2),
        Drop(0), Drop(7),
    ]


def numbers_with(tops, position, number):
    """Numbers of which a row can be made, but for the one at the position."""
    numbers = [0] * len(tops)
    numbers[position] = number
    return numbers
