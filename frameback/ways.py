"""Rows of code that go elsewhere, call, go back and drop."""

from frameback.bounds import TOP_BOX, TOP_TARGET, bounded
from frameback.rows import Row, with_box, without

LINK = 7
# Boxes 0, 1, 2, 3 and 7 as a set of places: a called function may leave anything in them.
LOST_BY_CALL = 143


class Jump(Row):
    """Goes on at the row target."""

    def __init__(self, target):
        self.target = bounded(target, TOP_TARGET)

    def runs(self, at, boxes, pile):
        return (self.target, list(boxes), list(pile))

    def goes(self, at):
        return [self.target]

    def told(self):
        return ("jump", self.target)

    def laid(self, by):
        return Jump(self.target + by)


class Branch(Row):
    """Goes on at the row target where the box doesn't hold 0."""

    def __init__(self, box, target):
        self.box = bounded(box, TOP_BOX)
        self.target = bounded(target, TOP_TARGET)

    def runs(self, at, boxes, pile):
        coming = at + 1 if boxes[self.box] == 0 else self.target
        return (coming, list(boxes), list(pile))

    def goes(self, at):
        return [at + 1, self.target]

    def told(self):
        return ("branch", self.box, self.target)

    def laid(self, by):
        return Branch(self.box, self.target + by)


class Call(Row):
    """Puts the number of the row behind it into the link and goes on at target."""

    def __init__(self, target):
        self.target = bounded(target, TOP_TARGET)

    def runs(self, at, boxes, pile):
        return (self.target, with_box(boxes, LINK, at + 1), list(pile))

    def keeps(self, places, high):
        return without(places, LOST_BY_CALL)

    def told(self):
        return ("call", self.target)

    def laid(self, by):
        return Call(self.target + by)


class Back(Row):
    """Goes on at the row whose number the box holds."""

    def __init__(self, box):
        self.box = bounded(box, TOP_BOX)

    def runs(self, at, boxes, pile):
        return (boxes[self.box], list(boxes), list(pile))

    def goes(self, at):
        return []

    def told(self):
        return ("back", self.box)


class Drop(Row):
    """Drops what the box holds."""

    def __init__(self, box):
        self.box = bounded(box, TOP_BOX)

    def runs(self, at, boxes, pile):
        # Where a drop lands hangs on the callers, which a row can't see.
        return None

    def goes(self, at):
        return []

    def told(self):
        return ("drop", self.box)
