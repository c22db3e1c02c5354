"""Rows of code that fill boxes and move the pile, and the base of all rows."""

from frameback.bounds import TOP_BOX, TOP_CELLS, TOP_VALUE, VALUES, bounded

FIRST_CELL_BIT = 8


def with_box(boxes, box, value):
    """Tell new boxes, with the value in that box."""
    changed = list(boxes)
    changed[box] = value
    return changed


def box_place(box):
    """Tell the set of places that has this box alone."""
    return 1 << box


def cell_place(cell, high):
    """Tell the set of places that has this cell alone, of a piece so high."""
    # Cells are counted from the top, places of the piece from below.
    return 1 << (FIRST_CELL_BIT + high - 1 - cell)


def without(places, place):
    """Tell the set without the place."""
    return places & ~place


def filled(places, place, source):
    """Tell what is left of the set where the place is filled with what lies at the source."""
    if places & source:
        return places | place
    return without(places, place)


class Row:
    """The base of all rows, never made by itself: what a row does that says nothing else."""

    def goes(self, at):
        """Tell the numbers of the rows that may come next."""
        return [at + 1]

    def height(self, high):
        """Tell the height of the piece behind the row, or None where the row isn't allowed."""
        return high

    def keeps(self, places, high):
        """Tell the set of places at which a value lies behind the row."""
        return places

    def laid(self, by):
        """Tell the row with its target so much greater."""
        # A row never changes, so one without a target can stand for itself.
        return self


class Set(Row):
    """Puts the number into the box."""

    def __init__(self, box, number):
        self.box = bounded(box, TOP_BOX)
        self.number = bounded(number, TOP_VALUE)

    def runs(self, at, boxes, pile):
        return (at + 1, with_box(boxes, self.box, self.number), list(pile))

    def keeps(self, places, high):
        return without(places, box_place(self.box))

    def told(self):
        return ("set", self.box, self.number)


class Copy(Row):
    """Puts into the box what box one holds."""

    def __init__(self, box, one):
        self.box = bounded(box, TOP_BOX)
        self.one = bounded(one, TOP_BOX)

    def runs(self, at, boxes, pile):
        return (at + 1, with_box(boxes, self.box, boxes[self.one]), list(pile))

    def keeps(self, places, high):
        return filled(places, box_place(self.box), box_place(self.one))

    def told(self):
        return ("copy", self.box, self.one)


class Reckoning(Row):
    """What the rows share that fill a box from two; never made by itself."""

    def __init__(self, box, one, other):
        self.box = bounded(box, TOP_BOX)
        self.one = bounded(one, TOP_BOX)
        self.other = bounded(other, TOP_BOX)

    def keeps(self, places, high):
        return without(places, box_place(self.box))


class Add(Reckoning):
    """Puts into the box the sum of what two boxes hold."""

    def runs(self, at, boxes, pile):
        value = (boxes[self.one] + boxes[self.other]) % VALUES
        return (at + 1, with_box(boxes, self.box, value), list(pile))

    def told(self):
        return ("add", self.box, self.one, self.other)


class Sub(Reckoning):
    """Puts into the box the difference of what two boxes hold."""

    def runs(self, at, boxes, pile):
        value = (boxes[self.one] - boxes[self.other]) % VALUES
        return (at + 1, with_box(boxes, self.box, value), list(pile))

    def told(self):
        return ("sub", self.box, self.one, self.other)


class Mul(Reckoning):
    """Puts into the box the product of what two boxes hold."""

    def runs(self, at, boxes, pile):
        value = (boxes[self.one] * boxes[self.other]) % VALUES
        return (at + 1, with_box(boxes, self.box, value), list(pile))

    def told(self):
        return ("mul", self.box, self.one, self.other)


class Less(Reckoning):
    """Puts 1 into the box where box one holds less than box other, else 0."""

    def runs(self, at, boxes, pile):
        value = 1 if boxes[self.one] < boxes[self.other] else 0
        return (at + 1, with_box(boxes, self.box, value), list(pile))

    def told(self):
        return ("less", self.box, self.one, self.other)


class Grow(Row):
    """Puts so many noughts on the pile."""

    def __init__(self, many):
        self.many = bounded(many, TOP_CELLS)

    def runs(self, at, boxes, pile):
        if self.height(len(pile)) is None:
            return None
        return (at + 1, list(boxes), list(pile) + [0] * self.many)

    def height(self, high):
        if high + self.many > TOP_CELLS:
            return None
        return high + self.many

    def told(self):
        return ("grow", self.many)


class Shrink(Row):
    """Takes so many cells off the pile."""

    def __init__(self, many):
        self.many = bounded(many, TOP_CELLS)

    def runs(self, at, boxes, pile):
        left = self.height(len(pile))
        if left is None:
            return None
        return (at + 1, list(boxes), pile[:left])

    def height(self, high):
        if high < self.many:
            return None
        return high - self.many

    def keeps(self, places, high):
        gone = ((1 << self.many) - 1) << (FIRST_CELL_BIT + high - self.many)
        return without(places, gone)

    def told(self):
        return ("shrink", self.many)


class Reaching(Row):
    """What the rows share that reach into the pile; never made by itself."""

    def __init__(self, box, cell):
        self.box = bounded(box, TOP_BOX)
        self.cell = bounded(cell, TOP_CELLS)

    def height(self, high):
        if high <= self.cell:
            return None
        return high


class Put(Reaching):
    """Puts what the box holds into the cell."""

    def runs(self, at, boxes, pile):
        if self.height(len(pile)) is None:
            return None
        changed = list(pile)
        changed[len(pile) - 1 - self.cell] = boxes[self.box]
        return (at + 1, list(boxes), changed)

    def keeps(self, places, high):
        return filled(places, cell_place(self.cell, high), box_place(self.box))

    def told(self):
        return ("put", self.box, self.cell)


class Get(Reaching):
    """Puts what the cell holds into the box."""

    def runs(self, at, boxes, pile):
        if self.height(len(pile)) is None:
            return None
        value = pile[len(pile) - 1 - self.cell]
        return (at + 1, with_box(boxes, self.box, value), list(pile))

    def keeps(self, places, high):
        return filled(places, box_place(self.box), cell_place(self.cell, high))

    def told(self):
        return ("get", self.box, self.cell)
