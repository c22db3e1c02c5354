"""Made-up code of several functions, to run, check and guess: as the checker lets by, but not as a maker would write.

The functions put boxes away late and on some ways only, grow and shrink their pieces, call one another, drop and land.
"""

from tests.samples import KINDS

MAKE = {word: kind for kind, word, tops in KINDS}


class Functions:
    """Rows with labels in the place of row numbers, and the landings of calls by labels."""

    def __init__(self, chance, many):
        self.chance = chance
        self.many = many
        self.rows = []
        self.places = {}
        self.landings = {}
        self.labels = 0
        for number in range(many):
            self.function(number)

    def row(self, *told):
        self.rows.append(told)

    def label(self):
        self.labels += 1
        return f"label {self.labels}"

    def here(self, label):
        self.places[label] = len(self.rows)

    def made(self):
        def number(part):
            return self.places[part] if isinstance(part, str) else part
        code = [MAKE[word](*[number(part) for part in parts]) for word, *parts in self.rows]
        return code, {number(call): number(landing) for call, landing in self.landings.items()}

    def function(self, number):
        self.here(f"function {number}")
        chance = self.chance
        if chance.random() < 0.5:
            self.reckon([])
        if chance.random() < 0.5:
            # On this way nothing is put away at all.
            on = self.label()
            self.row("branch", chance.randrange(4), on)
            self.row("back", 7)
            self.here(on)
        cells = chance.randrange(2, 6)
        self.row("grow", cells)
        order = list(range(cells))
        chance.shuffle(order)
        body = Body(self, number, cells, order)
        body.put_away(7)
        for time in range(chance.randrange(1, 5)):
            body.statement(2)
        body.go_back()

    def reckon(self, free):
        """Fill one of boxes 0 to 3, or of the kept boxes that are free."""
        chance = self.chance
        box = chance.choice([0, 1, 2, 3] + free)
        word = chance.choice(["set", "copy", "add", "sub", "mul", "less"])
        if word == "set":
            self.row("set", box, chance.choice([0, 1, 2, 3, 4294967295]))
        elif word == "copy":
            self.row("copy", box, chance.randrange(8))
        else:
            self.row(word, box, chance.randrange(8), chance.randrange(8))


class Body:
    """What a function does behind its first rows: its piece so high, values put away into cells from below."""

    def __init__(self, functions, number, high, order):
        self.functions = functions
        self.number = number
        self.chance = functions.chance
        self.row = functions.row
        self.high = high
        self.order = order
        self.away = {}

    def cell(self, place):
        return self.high - 1 - place

    def free_cells(self):
        return [place for place in self.order if place not in self.away.values()]

    def free_boxes(self):
        return [box for box in (4, 5, 6) if box in self.away]

    def put_away(self, box):
        place = self.free_cells()[0]
        self.row("put", box, self.cell(place))
        self.away[box] = place

    def fetch(self, box, into):
        self.row("get", into, self.cell(self.away[box]))

    def go_back(self):
        for box in self.free_boxes():
            self.fetch(box, box)
        by = self.chance.choice([0, 1, 2, 3, 7])
        self.fetch(7, by)
        if self.high > 1 and self.chance.random() < 0.5:
            self.row("shrink", 1)
            self.row("shrink", self.high - 1)
        else:
            self.row("shrink", self.high)
        self.row("back", by)

    def statement(self, depth):
        simple = [self.reckon, self.reckon, self.use_cell, self.put_away_one, self.call, self.call]
        within = [self.either, self.turns, self.taller, self.for_a_while, self.maybe_drop, self.maybe_back]
        if depth == 0 or self.chance.random() < 0.5:
            self.chance.choice(simple)()
        else:
            self.chance.choice(within)(depth - 1)

    def statements(self, depth):
        for time in range(self.chance.randrange(3)):
            self.statement(depth)

    def reckon(self):
        self.functions.reckon(self.free_boxes())

    def use_cell(self):
        cells = self.free_cells()
        if cells:
            cell = self.cell(self.chance.choice(cells))
            if self.chance.random() < 0.5:
                self.row("put", self.chance.randrange(8), cell)
            else:
                self.row("get", self.chance.choice([0, 1, 2, 3] + self.free_boxes()), cell)

    def put_away_one(self):
        boxes = [box for box in (4, 5, 6) if box not in self.away]
        if boxes and self.free_cells():
            box = self.chance.choice(boxes)
            self.put_away(box)
            self.row("set", box, self.chance.randrange(5))

    def call(self):
        functions = self.functions
        at = len(functions.rows)
        # Most calls go to a later function: else few runs would come to an end.
        least = 0 if self.chance.random() < 0.1 else self.number + 1
        if least == functions.many:
            self.maybe_drop(0)
            return
        self.row("call", f"function {self.chance.randrange(least, functions.many)}")
        if self.chance.random() < 0.5:
            landing, on = functions.label(), functions.label()
            functions.landings[at] = landing
            self.row("jump", on)
            functions.here(landing)
            self.apart(0)
            functions.here(on)

    def apart(self, depth):
        """Statements on a way of their own: what they put away they bring back."""
        before = dict(self.away)
        self.statements(depth)
        for box in [box for box in self.away if box not in before]:
            self.fetch(box, box)
        self.away = before

    def either(self, depth):
        one, on = self.functions.label(), self.functions.label()
        self.row("branch", self.chance.randrange(8), one)
        self.apart(depth)
        self.row("jump", on)
        self.functions.here(one)
        self.apart(depth)
        self.functions.here(on)

    def turns(self, depth):
        again = self.functions.label()
        counter = self.chance.choice([3] + self.free_boxes())
        self.row("set", counter, self.chance.randrange(1, 4))
        self.functions.here(again)
        self.apart(depth)
        self.row("set", 2, 1)
        self.row("sub", counter, counter, 2)
        self.row("branch", counter, again)

    def taller(self, depth):
        """A higher piece meanwhile; a value may lie in the upper cells too."""
        more = self.chance.randrange(1, 4)
        order = self.order
        self.row("grow", more)
        self.order = order + list(range(self.high, self.high + more))
        self.chance.shuffle(self.order)
        self.high += more
        self.apart(depth)
        self.row("shrink", more)
        self.high -= more
        self.order = order

    def for_a_while(self, depth):
        """A kept box is put away on this way alone, beside where it may lie already."""
        if self.free_cells():
            on = self.functions.label()
            self.row("branch", self.chance.randrange(4), on)
            self.apart(depth)
            self.functions.here(on)

    def maybe_drop(self, depth):
        on, box = self.functions.label(), self.chance.randrange(4)
        self.row("less", box, self.chance.randrange(8), self.chance.randrange(8))
        self.row("branch", box, on)
        self.row("drop", self.chance.randrange(8))
        self.functions.here(on)

    def maybe_back(self, depth):
        on = self.functions.label()
        self.row("branch", self.chance.randrange(4), on)
        self.go_back()
        self.functions.here(on)


def made_functions(chance, many):
    """A code of so many functions, and landings for some of its calls."""
    return Functions(chance, many).made()
