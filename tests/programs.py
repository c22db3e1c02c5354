"""Made-up programs, to run, make, show and read: all kinds of statements within one another."""

NUMBERS = (0, 0, 1, 1, 2, 3, 7, 2147483648, 4294967294, 4294967295)
RECKON = ("sum", "minus", "product", "less")


class Programs:
    """One program, made by chance: so many functions, and at most so many statements in all."""

    def __init__(self, chance, functions, statements):
        self.chance = chance
        self.handed = [chance.randrange(4) for function in range(functions)]
        self.each = max(1, statements // functions)
        self.left = 0
        self.number = 0

    def program(self):
        made = []
        for number, handed in enumerate(self.handed):
            self.number = number
            # What a function didn't use is left for those behind it.
            self.left += self.each
            made.append((handed, self.body()))
        return made

    def body(self):
        body = self.opening()
        while self.left > 0:
            body += self.statement(0)
            if self.chance.random() < 0.05:
                break
        return body

    def opening(self):
        """How a body begins: often so that a drop goes through several functions and lands."""
        way = self.chance.random()
        if self.left < 5 or way < 0.3:
            return []
        if not self.is_last() and (self.number == 0 or way < 0.4):
            self.left -= 2
            called = ("call", self.name()) + self.function_and_names()
            return [("try", [called] + self.some(1), self.name(), self.some(1))]
        if way < 0.75:
            return self.call(0)
        self.take()
        return [("drop", self.name())]

    def name(self):
        return self.chance.randrange(6)

    def take(self):
        self.left -= 1

    def some(self, within):
        """Statements within another one: none or some."""
        made = []
        for time in range(self.chance.randrange(4)):
            if self.left > 0:
                made += self.statement(within)
        return made

    def statement(self, within):
        chance = self.chance
        kinds = [self.plain, self.plain, self.plain, self.call, self.ending]
        if within < 4:
            kinds += [self.choice, self.turns, self.tried, self.tried]
        return chance.choice(kinds)(within)

    def plain(self, within):
        self.take()
        word = self.chance.choice(("set", "copy") + RECKON)
        if word == "set":
            return [("set", self.name(), self.chance.choice(NUMBERS))]
        if word == "copy":
            return [("copy", self.name(), self.name())]
        return [(word, self.name(), self.name(), self.name())]

    def function_and_names(self):
        least = self.number + 1 if self.chance.random() < 0.85 else 0
        if least >= len(self.handed):
            least = 0
        number = self.chance.randrange(least, len(self.handed))
        names = [self.name() for part in range(self.handed[number])]
        return (number, names if self.chance.random() < 0.7 else tuple(names))

    def is_last(self):
        """Whether no later function is there, mostly: else few runs would come to an end."""
        return self.number == len(self.handed) - 1 and self.chance.random() < 0.85

    def call(self, within):
        if self.is_last():
            return self.plain(within)
        self.take()
        return [("call", self.name()) + self.function_and_names()]

    def ending(self, within):
        """A drop, a give or a hand; mostly on one of two ways only."""
        chance = self.chance
        self.take()
        word = chance.choice(("drop", "drop", "give", "give" if self.is_last() else "hand"))
        made = [("hand",) + self.function_and_names()] if word == "hand" else [(word, self.name())]
        if within < 4 and self.left > 0 and chance.random() < 0.8:
            self.take()
            return [("if", self.name()) + (chance.choice([(made, []), ([], made)]))]
        return made

    def choice(self, within):
        self.take()
        return [("if", self.name(), self.some(within + 1), self.some(within + 1))]

    def turns(self, within):
        """A while that mostly comes to an end: two of its names count downward."""
        chance = self.chance
        counter, one = chance.sample(range(6), 2)
        if self.left < 5 or chance.random() < 0.1:
            self.take()
            return [("while", self.name(), self.some(within + 1))]
        self.left -= 5
        some = self.some(within + 1) + [("set", one, 1), ("minus", counter, counter, one)]
        return [("set", counter, chance.randrange(1, 5)), ("copy", one, counter), ("while", counter, some)]

    def tried(self, within):
        self.take()
        return [("try", self.some(within + 1), self.name(), self.some(within + 1))]


def made_program(chance, functions=None, statements=None):
    """A program; of any number of functions and statements where none are told."""
    functions = functions or chance.choice((1, 2, 3, 4, 8))
    statements = statements or chance.choice((5, 10, 20, 40, 80))
    return Programs(chance, functions, statements).program()


def made_values(chance, program):
    """Values for a program's function 0."""
    return [chance.choice(NUMBERS) for value in range(program[0][0])]


def count(statements):
    """How many statements these are, those within others counted."""
    return sum(1 + sum(count(part) for part in parts_within(statement)) for statement in statements)


def parts_within(statement):
    """The lists of statements within a statement."""
    return {
        "if": statement[2:], "while": statement[2:], "try": statement[1:4:2],
    }.get(statement[0], ())


def deepest(statements):
    """How many of if, while and try stand within one another."""
    depths = [0]
    for statement in statements:
        if statement[0] in ("if", "while", "try"):
            depths.append(1 + max(deepest(part) for part in parts_within(statement)))
    return max(depths)
