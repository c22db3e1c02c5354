"""The maker: programs made into code and a table for it."""

from frameback.errors import NoProgram
from frameback.frames import Frame, are_homes
from frameback.guess import guess
from frameback.moves import NOUGHT, SPARE, moves_of
from frameback.row_texts import made_of_three
from frameback.rows import Set
from frameback.talk import asked_for_program
from frameback.ways import LINK, Back, Branch, Call, Drop, Jump

# Boxes that no name lives in: for a value on its way, and for one beside it.
FIRST = 0
SECOND = 1
# The words of the rows that reckon as a program's words tell.
ROW_WORDS = {"sum": "add", "minus": "sub", "product": "mul", "less": "less"}


def plain_rows(frame, move):
    """Tell the rows of a set, copy, sum, minus, product or less."""
    box = frame.at_hand(move[1], FIRST)
    if move[0] == "set":
        return [Set(box, move[2])] + frame.stored(move[1], box)
    one = frame.at_hand(move[2], FIRST)
    rows = frame.fetched(move[2], FIRST)
    if move[0] == "copy":
        return rows + frame.stored(move[1], one)
    other = frame.at_hand(move[3], SECOND)
    rows = rows + frame.fetched(move[3], SECOND)
    reckons = made_of_three(ROW_WORDS[move[0]], box, one, other)
    return rows + [reckons] + frame.stored(move[1], box)


def settled(row, places):
    """Tell the row with the row's number in the place of the label that is its target, where it has one."""
    if isinstance(row, Jump) or isinstance(row, Branch) or isinstance(row, Call):
        return row.laid(places[row.target] - row.target)
    return row


class Making:
    """Code on its way. Till all of it is there, the targets of its rows are labels: numbers that stand for places."""

    def __init__(self, program, homes):
        self.handed = [function[0] for function in program]
        self.bodies = [moves_of(function[1]) for function in program]
        self.frames = [Frame(home) for home in homes]
        self.begins = []
        self.drafts = []
        self.places = {}
        self.landing_labels = {}
        labels = 0
        for body in self.bodies:
            self.begins.append(labels)
            # One for the function's begin, one for each of its moves, one for its end.
            labels = labels + len(body) + 2

    def label(self, function, mark):
        """Tell the label of a function's move."""
        return self.begins[function] + 1 + mark

    def end_label(self, function):
        """Tell the label of the rows by which the function gives what box 0 holds."""
        return self.label(function, len(self.bodies[function]))

    def here(self, label):
        """Let the label stand for the next row."""
        self.places[label] = len(self.drafts)

    def add_function(self, function):
        """Make a function: how it begins, its moves, how it ends."""
        frame = self.frames[function]
        self.here(self.begins[function])
        self.drafts.extend(frame.begun(self.handed[function]))
        for mark, known in enumerate(self.bodies[function]):
            self.here(self.label(function, mark))
            if known[0][0] == "call":
                self.add_call(function, known[0], known[1])
            else:
                self.drafts.extend(self.rows_of(function, mark))
        self.here(self.end_label(function))
        self.drafts.extend(frame.left() + [Back(LINK)])

    def add_call(self, function, move, landing):
        """Make a call, and note its landing where it has one."""
        frame = self.frames[function]
        self.drafts.extend(frame.all_loaded(move[3]))
        if landing is not None:
            self.landing_labels[len(self.drafts)] = self.label(function, landing)
        self.drafts.append(Call(self.begins[move[2]]))
        if move[1] != SPARE:
            self.drafts.extend(frame.stored(move[1], FIRST))

    def rows_of(self, function, mark):
        """Tell the rows of a move that is no call."""
        frame = self.frames[function]
        move = self.bodies[function][mark][0]
        word = move[0]
        if word == "go" or word == "try":
            return [Jump(self.label(function, move[1]))]
        if word == "test":
            box = frame.at_hand(move[1], FIRST)
            ways = [Branch(box, self.label(function, mark + 1)), Jump(self.label(function, move[2]))]
            return frame.fetched(move[1], FIRST) + ways
        if word == "land":
            return frame.stored(move[1], FIRST)
        if word == "hand":
            return frame.all_loaded(move[2]) + frame.left() + [Jump(self.begins[move[1]])]
        if word == "drop":
            return self.drop_rows(function, move[1], self.bodies[function][mark][1])
        if word == "give":
            return frame.loaded(move[1], FIRST) + [Jump(self.end_label(function))]
        if word == "leave":
            # The one that gives 0 is the last move: the function's end stands right behind it.
            return [Set(FIRST, 0)] if move[1] == NOUGHT else [Jump(self.end_label(function))]
        return plain_rows(frame, move)

    def drop_rows(self, function, name, landing):
        """Tell the rows of a drop: one that lands in its own function is a way within it."""
        frame = self.frames[function]
        if landing is not None:
            return frame.loaded(name, FIRST) + [Jump(self.label(function, landing))]
        return frame.fetched(name, FIRST) + [Drop(frame.at_hand(name, FIRST))]

    def finished(self):
        """Tell the code and its table, numbers of rows in the place of all labels."""
        code = [settled(row, self.places) for row in self.drafts]
        landings = {}
        for call, label in self.landing_labels.items():
            landings[call] = self.places[label]
        return (code, guess(code, landings))


def made(program, homes=None):
    """Tell the code that does as the program, and the table for it; homes tells which names live in boxes 4, 5, 6."""
    asked_for_program(program)
    chosen = [(None, None, None) for function in program] if homes is None else homes
    if not are_homes(chosen, len(program)):
        raise NoProgram("these are no homes for this program")
    making = Making(program, chosen)
    for function in range(len(program)):
        making.add_function(function)
    return making.finished()
