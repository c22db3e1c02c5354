"""A second telling of how a program is run, statement within statement, to hold the runner against."""

VALUES = 4294967296


class Gave(Exception):
    """The function is left with a value."""


class Handed(Exception):
    """Another function takes the function's place."""


class Dropped(Exception):
    """A value is on its way outward."""


class Ended(Exception):
    """The whole run ends with an answer."""


class PlainRun:
    def __init__(self, program, steps):
        self.program = program
        self.left = steps
        self.taken = 0

    def count(self):
        if self.left == 0:
            raise Ended(("tired",))
        self.left -= 1
        self.taken += 1

    def function(self, number, values, calls):
        while True:
            names = dict(enumerate(list(values) + [0] * (6 - len(values))))
            try:
                self.statements(self.program[number][1], names, calls, False)
                return 0
            except Gave as gave:
                return gave.args[0]
            except Handed as handed:
                number, values = handed.args

    def statements(self, statements, names, calls, in_some):
        for statement in statements:
            getattr(self, "do_" + statement[0])(statement, names, calls, in_some)

    def within(self, number, values, calls):
        if calls == 20:
            raise Ended(("deep",))
        return self.function(number, values, calls + 1)

    def do_set(self, statement, names, calls, in_some):
        self.count()
        names[statement[1]] = statement[2]

    def do_copy(self, statement, names, calls, in_some):
        self.count()
        names[statement[1]] = names[statement[2]]

    def reckon(self, statement, names, how):
        self.count()
        word, into, one, other = statement
        names[into] = int(how(names[one], names[other])) % VALUES

    def do_sum(self, statement, names, calls, in_some):
        self.reckon(statement, names, lambda one, other: one + other)

    def do_minus(self, statement, names, calls, in_some):
        self.reckon(statement, names, lambda one, other: one - other)

    def do_product(self, statement, names, calls, in_some):
        self.reckon(statement, names, lambda one, other: one * other)

    def do_less(self, statement, names, calls, in_some):
        self.reckon(statement, names, lambda one, other: one < other)

    def do_call(self, statement, names, calls, in_some):
        self.count()
        word, into, number, handed = statement
        names[into] = self.within(number, [names[name] for name in handed], calls)

    def do_if(self, statement, names, calls, in_some):
        self.count()
        word, name, some, others = statement
        self.statements(some if names[name] else others, names, calls, in_some)

    def do_while(self, statement, names, calls, in_some):
        word, name, some = statement
        self.count()
        while names[name]:
            self.statements(some, names, calls, in_some)
            self.count()

    def do_try(self, statement, names, calls, in_some):
        self.count()
        word, some, name, others = statement
        try:
            self.statements(some, names, calls, True)
            return
        except Dropped as dropped:
            names[name] = dropped.args[0]
        self.statements(others, names, calls, in_some)

    def do_drop(self, statement, names, calls, in_some):
        self.count()
        raise Dropped(names[statement[1]])

    def do_give(self, statement, names, calls, in_some):
        self.count()
        raise Gave(names[statement[1]])

    def do_hand(self, statement, names, calls, in_some):
        self.count()
        word, number, handed = statement
        values = [names[name] for name in handed]
        if in_some:
            raise Gave(self.within(number, values, calls))
        raise Handed(number, values)


def plain_run_and_steps(program, values, steps):
    """The answer, and how many steps were taken."""
    run = PlainRun(program, steps)
    try:
        return ("gave", run.function(0, values, 0)), run.taken
    except Dropped as dropped:
        return ("dropped", dropped.args[0]), run.taken
    except Ended as ended:
        return ended.args[0], run.taken


def plain_run(program, values, steps):
    return plain_run_and_steps(program, values, steps)[0]
