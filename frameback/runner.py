"""The plain runner of programs."""

from frameback.bounds import VALUES
from frameback.errors import NoProgram
from frameback.moves import NOUGHT, moves_of
from frameback.talk import asked_for_program

TOP_CALLS = 20
# Moves that stand for no step of a program.
UNCOUNTED = ("go", "leave")


def reckoned(move, names):
    """Tell the value that a set, copy, sum, minus, product or less gives to its name."""
    word = move[0]
    if word == "set":
        return move[2]
    one = names[move[2]]
    if word == "copy":
        return one
    other = names[move[3]]
    if word == "less":
        return 1 if one < other else 0
    if word == "sum":
        return (one + other) % VALUES
    if word == "minus":
        return (one - other) % VALUES
    return (one * other) % VALUES


class Doing:
    """A function that is being done: its moves, the number of the one that comes next, and what its names hold."""

    def __init__(self, moves, values):
        self.moves = moves
        self.mark = 0
        # What lies behind the six names is for the moves alone.
        self.names = list(values) + [0] * (NOUGHT + 1 - len(values))

    def last_move(self):
        """Tell the move that was made last."""
        return self.moves[self.mark - 1][0]

    def lands(self, value):
        """Let the value that was dropped by the last move land, and tell whether there is a try where it does."""
        landing = self.moves[self.mark - 1][1]
        if landing is None:
            return False
        self.names[self.moves[landing][0][1]] = value
        self.mark = landing + 1
        return True


class Run:
    """A run of a program: the functions that are being done, the newest last."""

    def __init__(self, program, steps):
        self.bodies = [moves_of(function[1]) for function in program]
        self.steps_left = steps
        self.doings = []
        self.answer = None

    def begin(self, function, values):
        """Begin a function with these values."""
        self.doings.append(Doing(self.bodies[function], values))

    def step(self):
        """Make one move; where it is a step too many, be tired."""
        doing = self.doings[-1]
        doing.mark = doing.mark + 1
        move = doing.last_move()
        if move[0] not in UNCOUNTED:
            if self.steps_left <= 0:
                self.answer = ("tired",)
                return
            self.steps_left = self.steps_left - 1
        self.make(doing, move)

    def make(self, doing, move):
        """Make a move of the newest function."""
        word = move[0]
        if word == "test":
            if doing.names[move[1]] == 0:
                doing.mark = move[2]
        elif word == "go" or word == "try":
            doing.mark = move[1]
        elif word == "call":
            self.call(move[2], [doing.names[name] for name in move[3]])
        elif word == "hand":
            self.doings.pop()
            self.begin(move[1], [doing.names[name] for name in move[2]])
        elif word == "give" or word == "leave":
            self.leave(doing.names[move[1]])
        elif word == "drop":
            self.drop(doing.names[move[1]])
        else:
            doing.names[move[1]] = reckoned(move, doing.names)

    def call(self, function, values):
        """Begin a function within the newest one, where that isn't too deep."""
        if len(self.doings) > TOP_CALLS:
            self.answer = ("deep",)
        else:
            self.begin(function, values)

    def leave(self, value):
        """Leave the newest function: the call for which it was done gets the value."""
        self.doings.pop()
        if len(self.doings) == 0:
            self.answer = ("gave", value)
        else:
            caller = self.doings[-1]
            caller.names[caller.last_move()[1]] = value

    def drop(self, value):
        """Drop the value: functions are left till it lands in one."""
        while len(self.doings) > 0:
            if self.doings[-1].lands(value):
                return
            self.doings.pop()
        self.answer = ("dropped", value)


def run(program, values, steps):
    """Run the program: tell ("gave", V), ("dropped", V), ("tired",) or ("deep",)."""
    asked_for_program(program)
    if len(values) != program[0][0]:
        raise NoProgram("function 0 is handed another number of values")
    running = Run(program, steps)
    running.begin(0, values)
    while running.answer is None:
        running.step()
    return running.answer
