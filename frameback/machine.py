"""The machine: runs a code step by step, beside it a plain book of all calls."""

from frameback.errors import Astray
from frameback.reader import callers
from frameback.tables import Table
from frameback.ways import Back, Call, Drop


def kept_of(boxes):
    """Tell what boxes 4, 5 and 6 hold, as a tuple of three."""
    return (boxes[4], boxes[5], boxes[6])


class Machine:
    """A run of a code, with a table as long as it, from a row on."""

    def __init__(self, code, table, boxes, start=0):
        self.code = list(code)
        self.table = Table(table.entries, table.landings)
        self.home = len(self.code)
        self.coming = start
        self.held = list(boxes) + [self.home]
        self.cells = []
        # The newest call stands last here, where it is put in and taken out at no cost.
        self.calls = [(self.home, kept_of(self.held), 0)]
        self.dropped = None
        self.state = self.word_ahead_of(start)

    def word_ahead_of(self, coming):
        """Tell the machine's word where this row comes next."""
        if coming == self.home:
            return "ended"
        return "runs" if 0 <= coming < self.home else "fault"

    def at(self):
        """Tell the number of the row that comes next."""
        return self.coming

    def boxes(self):
        """Tell what the eight boxes hold."""
        return list(self.held)

    def pile(self):
        """Tell the cells of the pile, the top last."""
        return list(self.cells)

    def word(self):
        """Tell "runs", "ended", "fault" or "dropped"."""
        return self.state

    def book(self):
        """Tell all calls that have not come back, the newest first."""
        return list(reversed(self.calls))

    def fault(self):
        """Tell the value that was dropped and landed nowhere, else None."""
        return self.dropped

    def step(self):
        """Do the row that comes next, where the machine runs."""
        if self.state != "runs":
            return
        row = self.code[self.coming]
        if isinstance(row, Drop):
            self.drop(self.held[row.box])
        else:
            self.do(row)

    def do(self, row):
        """Do a row that is no Drop."""
        done = row.runs(self.coming, self.held, self.cells)
        if done is None or self.word_ahead_of(done[0]) == "fault":
            self.state = "fault"
            return
        if isinstance(row, Call):
            self.calls.append((self.coming + 1, kept_of(self.held), len(self.cells)))
        if isinstance(row, Back):
            self.forget(1)
        self.go_on(done[0], done[1], done[2])

    def forget(self, many):
        """Take so many of the newest calls out of the book, or all where it has fewer."""
        left = max(0, len(self.calls) - many)
        while len(self.calls) > left:
            self.calls.pop()

    def go_on(self, coming, boxes, pile):
        """Go on at the row, with these boxes and this pile."""
        self.coming = coming
        self.held = boxes
        self.cells = pile
        self.state = self.word_ahead_of(coming)

    def drop(self, value):
        """Drop the value: it lands at the newest caller that has a landing."""
        try:
            told = callers(self.table, self.coming, self.held, self.cells)
        except Astray:
            self.state = "fault"
            return
        for looked_at, caller in enumerate(told, start=1):
            if caller[0] != self.home and caller[0] - 1 in self.table.landings:
                self.land(value, caller, looked_at)
                return
        self.state = "dropped"
        self.dropped = value

    def land(self, value, caller, looked_at):
        """Go on at the landing of the caller, the last of so many that were looked at."""
        coming = self.table.landings[caller[0] - 1]
        if self.word_ahead_of(coming) == "fault":
            self.state = "fault"
            return
        self.forget(looked_at)
        boxes = [value] + self.held[1:4] + list(caller[1]) + [self.held[7]]
        self.go_on(coming, boxes, self.cells[:caller[2]])
