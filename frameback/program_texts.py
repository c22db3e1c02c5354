"""Programs as texts, and read again."""

from frameback.errors import NoText
from frameback.figures import read_number
from frameback.row_texts import asked_for_text
from frameback.talk import asked_for_program

PARTING = "; "
TOP_SIGNS = 8000
TOP_READ_WITHIN = 40

# How many numbers stand behind the word of each row.
COUNTS = {
    "fun": 1, "set": 2, "copy": 2, "sum": 3, "minus": 3, "product": 3, "less": 3, "drop": 1, "give": 1,
    "if": 1, "else": 0, "while": 1, "try": 0, "landing": 1, "end": 0,
}
# How many numbers of these stand ahead of the names that are handed on, of which there may be any number.
AHEAD_OF_NAMES = {"call": 2, "hand": 1}
# With what no statement begins; the text without signs stands for the end of all rows.
NO_STATEMENT = ("fun", "else", "landing", "end", "")


def shown_row(word, numbers):
    """Tell a row: its word and its numbers."""
    return " ".join([word] + [str(number) for number in numbers])


def shown_statement(statement):
    """Tell the rows of a statement."""
    word = statement[0]
    if word == "if":
        some = shown_statements(statement[2])
        others = shown_statements(statement[3])
        return [shown_row(word, [statement[1]])] + some + ["else"] + others + ["end"]
    if word == "while":
        return [shown_row(word, [statement[1]])] + shown_statements(statement[2]) + ["end"]
    if word == "try":
        some = shown_statements(statement[1])
        others = shown_statements(statement[3])
        return [word] + some + [shown_row("landing", [statement[2]])] + others + ["end"]
    if word == "call" or word == "hand":
        return [shown_row(word, list(statement[1:-1]) + list(statement[-1]))]
    return [shown_row(word, statement[1:])]


def shown_statements(statements):
    """Tell the rows of all these statements."""
    rows = []
    for statement in statements:
        rows.extend(shown_statement(statement))
    return rows


def shown_program(program):
    """Tell the program as a text."""
    asked_for_program(program)
    rows = []
    for handed, body in program:
        rows.append(shown_row("fun", [handed]))
        rows.extend(shown_statements(body))
    return PARTING.join(rows)


def has_count(word, many):
    """Tell whether a row may be of this word and so many numbers."""
    if word in AHEAD_OF_NAMES:
        return many >= AHEAD_OF_NAMES[word]
    return word in COUNTS and many == COUNTS[word]


def read_words(row):
    """Tell the word and the numbers of a row, as a tuple."""
    words = row.split(" ")
    if not has_count(words[0], len(words) - 1):
        raise NoText("there is no row of this word and so many numbers")
    return tuple([words[0]] + [read_number(word) for word in words[1:]])


def plain_statement(row):
    """Tell the statement that one row writes by itself."""
    if row[0] not in AHEAD_OF_NAMES:
        return row
    ahead = 1 + AHEAD_OF_NAMES[row[0]]
    return row[:ahead] + (list(row[ahead:]),)


class ProgramRows:
    """The rows of a program's text, each read as its word and its numbers, and taken from the first on."""

    def __init__(self, rows):
        self.rows = rows
        self.mark = 0

    def next_word(self):
        """Tell the word of the row that comes next, or a text without signs where none does."""
        return self.rows[self.mark][0] if self.mark < len(self.rows) else ""

    def take_row(self, word):
        """Take the next row, which must be of this word."""
        if self.next_word() != word:
            raise NoText(f"here a row should stand that begins with {word}")
        self.mark = self.mark + 1
        return self.rows[self.mark - 1]

    def statements(self, within):
        """Take statements, as many as there are, within so many others."""
        told = []
        while self.next_word() not in NO_STATEMENT:
            told.append(self.statement(within))
        return told

    def statement(self, within):
        """Take one statement with all its rows."""
        row = self.take_row(self.next_word())
        if row[0] not in ("if", "while", "try"):
            return plain_statement(row)
        if within == TOP_READ_WITHIN:
            raise NoText(f"more than {TOP_READ_WITHIN} statements within one another")
        some = self.statements(within + 1)
        if row[0] == "while":
            self.take_row("end")
            return ("while", row[1], some)
        between = self.take_row("else" if row[0] == "if" else "landing")
        others = self.statements(within + 1)
        self.take_row("end")
        return ("if", row[1], some, others) if row[0] == "if" else ("try", some, between[1], others)

    def functions(self):
        """Take all functions."""
        told = []
        while self.mark < len(self.rows):
            row = self.take_row("fun")
            told.append((row[1], self.statements(0)))
        return told


def read_program(text):
    """Tell the program that the text writes."""
    asked_for_text(text)
    if len(text) > TOP_SIGNS:
        raise NoText(f"a text of more than {TOP_SIGNS} signs")
    program = ProgramRows([read_words(row) for row in text.split(PARTING)]).functions()
    # Asked behind the whole form: a wrong form further on comes ahead of what is no program.
    asked_for_program(program)
    return program
