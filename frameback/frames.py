"""Where a function of made code has its names, and what it puts away for its caller."""

from frameback.rows import Copy, Get, Grow, Put, Set, Shrink
from frameback.tables import KEPT_BOXES
from frameback.talk import TOP_NAME, is_name
from frameback.ways import LINK


def is_home(home):
    """Tell whether this tells for each of the three kept boxes a name or None, and no name twice."""
    if not isinstance(home, tuple) or len(home) != len(KEPT_BOXES):
        return False
    names = [name for name in home if name is not None]
    return all([is_name(name) and names.count(name) == 1 for name in names])


def are_homes(homes, functions):
    """Tell whether these are the homes of so many functions."""
    return isinstance(homes, list) and len(homes) == functions and all([is_home(home) for home in homes])


class Frame:
    """A function's piece of the pile: cells for what it puts away, and for each name that lives in no box."""

    def __init__(self, home):
        self.box_of = {}
        for box, name in zip(KEPT_BOXES, home):
            if name is not None:
                self.box_of[name] = box
        # The link is put away always, since a call fills it; a kept box only where a name lives in it.
        self.away = [LINK] + [box for box, name in zip(KEPT_BOXES, home) if name is not None]
        self.in_cells = [name for name in range(TOP_NAME + 1) if name not in self.box_of]
        self.many = len(self.away) + len(self.in_cells)

    def cell_of(self, name):
        """Tell the cell in which the name lives."""
        return len(self.away) + self.in_cells.index(name)

    def begun(self, handed):
        """Tell the rows by which the function begins, handed so many values."""
        rows = [Grow(self.many)]
        rows.extend([Put(box, cell) for cell, box in enumerate(self.away)])
        for name in range(handed):
            rows.extend(self.stored(name, name))
        # The other names hold 0: a new cell does so by itself, a box doesn't.
        rows.extend([Set(box, 0) for name, box in self.box_of.items() if name >= handed])
        return rows

    def left(self):
        """Tell the rows by which all is as it was when the function began, but for boxes 0 to 3."""
        rows = [Get(box, cell) for cell, box in enumerate(self.away)]
        rows.append(Shrink(self.many))
        return rows

    def at_hand(self, name, spare):
        """Tell the box that holds the name's value behind the rows that fetched tells."""
        return self.box_of.get(name, spare)

    def fetched(self, name, spare):
        """Tell the rows by which the name's value is at hand, in the spare box where it lives in none."""
        return [] if name in self.box_of else self.loaded(name, spare)

    def loaded(self, name, box):
        """Tell the rows by which this box holds the name's value."""
        return [Copy(box, self.box_of[name])] if name in self.box_of else [Get(box, self.cell_of(name))]

    def all_loaded(self, names):
        """Tell the rows by which the boxes from 0 on hold the names' values, in order."""
        rows = []
        for box, name in enumerate(names):
            rows.extend(self.loaded(name, box))
        return rows

    def stored(self, name, box):
        """Tell the rows by which the name gets what the box holds."""
        if name not in self.box_of:
            return [Put(box, self.cell_of(name))]
        return [] if self.box_of[name] == box else [Copy(self.box_of[name], box)]
