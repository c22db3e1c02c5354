"""The desk: programs and codes kept by names, asked for by rows of text."""

from frameback.bounds import TOP_VALUE
from frameback.checker import checked
from frameback.errors import NoLine, NoName, NoText
from frameback.figures import read_number
from frameback.guess import guess
from frameback.machine import Machine
from frameback.maker import made
from frameback.program_texts import PARTING, read_program, shown_program
from frameback.reader import callers
from frameback.row_texts import read_code, show_code
from frameback.runner import run

LETTERS = "abcdefghijklmnopqrstuvwxyz"
MOST_LETTERS = 8
TOP_STEPS = 20000
# As many as there are boxes to fill.
MOST_VALUES = 7

# What stands behind the first word of each row. A text is all that follows; values are none or some.
FORMS = {
    "program": ("name", "text"),
    "make": ("name", "program"),
    "code": ("name", "text"),
    "show": ("program",),
    "rows": ("code",),
    "checked": ("code",),
    "run": ("program", "steps", "values"),
    "play": ("code", "steps", "values"),
    "callers": ("code", "steps", "values"),
    "book": ("code", "steps", "values"),
}


def kinds_of(kinds, many):
    """Tell the kind of each of so many words, or None where there are too few or too many."""
    told = list(kinds)
    if told[-1] == "values":
        told.pop()
        told.extend(["value"] * min(MOST_VALUES, many - len(told)))
    return told if len(told) == many else None


def words_and_kinds(row):
    """Tell the row's words, and the kind of each but the first; refuse with NoLine what is no row of the desk."""
    if not isinstance(row, str):
        raise NoLine("this is no text")
    words = row.split(" ")
    if words[0] not in FORMS:
        raise NoLine("there is no row of this word")
    if "text" in FORMS[words[0]]:
        words = row.split(" ", 2)
    kinds = kinds_of(FORMS[words[0]], len(words) - 1)
    if kinds is None:
        raise NoLine("a row of another number of words")
    return (words, kinds)


def number_up_to(word, top):
    """Tell the number that the word writes, or refuse it with NoText."""
    number = read_number(word)
    if number > top:
        raise NoText(f"a number above {top}")
    return number


def named(word):
    """Tell the word, or refuse it with NoName where it can't be a name."""
    if not 1 <= len(word) <= MOST_LETTERS or not all([sign in LETTERS for sign in word]):
        raise NoName(word)
    return word


def kept_by(name, kept):
    """Tell what is kept by this name, or refuse it with NoName."""
    if name not in kept:
        raise NoName(name)
    return kept[name]


def shown_line(parts):
    """Tell numbers and words as a text, one blank between."""
    return " ".join([str(part) for part in parts])


def shown_lines(lines):
    """Tell lists of numbers and words as a text, `none` where there are none."""
    return PARTING.join([shown_line(line) for line in lines]) if len(lines) > 0 else "none"


def flat(told):
    """Tell each caller as one list: its row, its three values, its pile's length."""
    return [[row] + list(kept) + [length] for row, kept, length in told]


def played(code, table, steps, values):
    """Tell the machine behind at most so many steps, its first boxes filled with the values."""
    machine = Machine(code, table, values + [0] * (MOST_VALUES - len(values)))
    left = steps
    while left > 0 and machine.word() == "runs":
        machine.step()
        left = left - 1
    return machine


def shown_word(machine):
    """Tell the machine's word, and what it ended with or dropped."""
    if machine.word() == "ended":
        return shown_line(["ended", machine.boxes()[0]])
    if machine.word() == "dropped":
        return shown_line(["dropped", machine.fault()])
    return machine.word()


def told_of_run(word, kept, steps, values):
    """Answer a play, callers or book: what is to be told of a run of the code."""
    machine = played(kept[0], kept[1], steps, values)
    if word == "play":
        return shown_word(machine)
    if word == "book":
        return shown_lines(flat(machine.book()))
    return shown_lines(flat(callers(kept[1], machine.at(), machine.boxes(), machine.pile())))


class Desk:
    """Programs by names, and codes, each with its table, by names."""

    def __init__(self):
        self.programs = {}
        self.codes = {}

    def say(self, row):
        """Do what the row of text tells, and tell the answer."""
        found = words_and_kinds(row)
        word = found[0][0]
        # All words are looked at ahead of anything being done, from the left.
        parts = [self.understood(part, kind) for part, kind in zip(found[0][1:], found[1])]
        if FORMS[word][0] == "name":
            self.keep(word, parts[0], parts[1])
            return "ok"
        return self.told_of(word, parts[0], parts[1:])

    def understood(self, word, kind):
        """Tell what a word of this kind stands for, or refuse it."""
        if kind == "name":
            return named(word)
        if kind == "program":
            return kept_by(word, self.programs)
        if kind == "code":
            return kept_by(word, self.codes)
        if kind == "steps":
            return number_up_to(word, TOP_STEPS)
        if kind == "value":
            return number_up_to(word, TOP_VALUE)
        return word

    def keep(self, word, name, part):
        """Keep by the name the program that is written, what is made of one, or the code that is written."""
        if word == "program":
            self.programs[name] = read_program(part)
        elif word == "make":
            self.codes[name] = made(part)
        else:
            code = read_code(part)
            self.codes[name] = (code, guess(code))

    def told_of(self, word, kept, numbers):
        """Answer what is asked of a program or a code that is kept."""
        if word == "show":
            return shown_program(kept)
        if word == "rows":
            return show_code(kept[0])
        if word == "checked":
            return shown_lines(checked(kept[0], kept[1]))
        if word == "run":
            return shown_line(run(kept, numbers[1:], numbers[0]))
        return told_of_run(word, kept, numbers[0], numbers[1:])
