"""Programs: what is one, and what is none."""

from frameback.bounds import TOP_VALUE, is_whole
from frameback.errors import NoProgram

TOP_FUNCTIONS = 8
TOP_HANDED = 3
TOP_NAME = 5
TOP_STATEMENTS = 80
TOP_WITHIN = 4

# What stands behind the word of each statement.
PARTS = {
    "set": ("name", "value"),
    "copy": ("name", "name"),
    "sum": ("name", "name", "name"),
    "minus": ("name", "name", "name"),
    "product": ("name", "name", "name"),
    "less": ("name", "name", "name"),
    "call": ("name", "function", "names"),
    "if": ("name", "statements", "statements"),
    "while": ("name", "statements"),
    "try": ("statements", "name", "statements"),
    "drop": ("name",),
    "give": ("name",),
    "hand": ("function", "names"),
}


def is_up_to(thing, top):
    """Tell whether this is a whole number from 0 to top."""
    return is_whole(thing) and thing <= top


def is_name(thing):
    """Tell whether this is one of a function's names."""
    return is_up_to(thing, TOP_NAME)


def are_names(things):
    """Tell whether this is a list or a tuple of names."""
    return isinstance(things, (list, tuple)) and all([is_name(thing) for thing in things])


def is_part(part, kind, functions):
    """Tell whether the part of a statement is of this kind, in a program of so many functions."""
    if kind == "name":
        return is_name(part)
    if kind == "value":
        return is_up_to(part, TOP_VALUE)
    if kind == "function":
        return is_up_to(part, functions - 1)
    if kind == "names":
        return are_names(part)
    return isinstance(part, list)


def is_statement(statement, handed):
    """Tell whether this is a statement, but for those within it; handed tells how many values each function takes."""
    if not isinstance(statement, tuple) or len(statement) == 0 or not isinstance(statement[0], str):
        return False
    kinds = PARTS.get(statement[0])
    if kinds is None or len(statement) != 1 + len(kinds):
        return False
    if not all([is_part(part, kind, len(handed)) for part, kind in zip(statement[1:], kinds)]):
        return False
    if statement[0] == "call" or statement[0] == "hand":
        # The function and the names for it are the last two parts of both.
        return len(statement[-1]) == handed[statement[-2]]
    return True


def lists_within(statement):
    """Tell the lists of statements that stand within a statement: none, one or two."""
    return [part for part, kind in zip(statement[1:], PARTS[statement[0]]) if kind == "statements"]


def are_statements(bodies, handed):
    """Tell whether all that stands in the bodies, and within it, is statements, not too many and not too deep."""
    waiting = [(body, 0) for body in bodies]
    many = 0
    # The bounds are asked on the way, so a program that is far too big isn't walked to its end.
    while len(waiting) > 0:
        found = waiting.pop()
        many = many + len(found[0])
        if many > TOP_STATEMENTS or not all([is_statement(statement, handed) for statement in found[0]]):
            return False
        for statement in found[0]:
            inner = lists_within(statement)
            if len(inner) > 0 and found[1] == TOP_WITHIN:
                return False
            waiting.extend([(statements, found[1] + 1) for statements in inner])
    return True


def is_function(function):
    """Tell whether this is a function, but for its statements."""
    if not isinstance(function, tuple) or len(function) != 2:
        return False
    return is_up_to(function[0], TOP_HANDED) and isinstance(function[1], list)


def is_program(program):
    """Tell whether this is a program."""
    if not isinstance(program, list) or not 1 <= len(program) <= TOP_FUNCTIONS:
        return False
    if not all([is_function(function) for function in program]):
        return False
    return are_statements([function[1] for function in program], [function[0] for function in program])


def asked_for_program(program):
    """Refuse with NoProgram what is no program."""
    if not is_program(program):
        raise NoProgram("this is no program")
