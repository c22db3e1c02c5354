"""Rows and code as texts, and read again."""

from frameback.bounds import TOP_ROWS
from frameback.errors import NoText
from frameback.figures import read_number
from frameback.rows import Add, Copy, Get, Grow, Less, Mul, Put, Set, Shrink, Sub
from frameback.ways import Back, Branch, Call, Drop, Jump

# How many numbers the row of each word is made of.
COUNTS = {
    "set": 2, "copy": 2, "add": 3, "sub": 3, "mul": 3, "less": 3, "grow": 1, "shrink": 1,
    "put": 2, "get": 2, "jump": 1, "branch": 2, "call": 1, "back": 1, "drop": 1,
}


def made_of_one(word, number):
    """Make the row of this word that has one number."""
    if word == "grow":
        return Grow(number)
    if word == "shrink":
        return Shrink(number)
    if word == "jump":
        return Jump(number)
    if word == "call":
        return Call(number)
    if word == "back":
        return Back(number)
    return Drop(number)


def made_of_two(word, first, second):
    """Make the row of this word that has two numbers."""
    if word == "set":
        return Set(first, second)
    if word == "copy":
        return Copy(first, second)
    if word == "put":
        return Put(first, second)
    if word == "get":
        return Get(first, second)
    return Branch(first, second)


def made_of_three(word, first, second, third):
    """Make the row of this word that has three numbers."""
    if word == "add":
        return Add(first, second, third)
    if word == "sub":
        return Sub(first, second, third)
    if word == "mul":
        return Mul(first, second, third)
    return Less(first, second, third)


def show_row(row):
    """Tell the row as a text."""
    return " ".join([str(part) for part in row.told()])


def show_code(code):
    """Tell the code as a text, a line for each row."""
    return "\n".join([show_row(row) for row in code])


def asked_for_text(text):
    """Refuse with NoText what is no text."""
    if not isinstance(text, str):
        raise NoText("this is no text")


def read_row(text):
    """Tell the row that the text writes."""
    asked_for_text(text)
    words = text.split(" ")
    word = words[0]
    if word not in COUNTS:
        raise NoText("there is no row of this word")
    # All numbers are read ahead of the row being made: a wrong form comes ahead of a number out of bounds.
    numbers = [read_number(part) for part in words[1:]]
    if len(numbers) != COUNTS[word]:
        raise NoText(f"a row of another number of numbers: {word}")
    if len(numbers) == 1:
        return made_of_one(word, numbers[0])
    if len(numbers) == 2:
        return made_of_two(word, numbers[0], numbers[1])
    return made_of_three(word, numbers[0], numbers[1], numbers[2])


def read_code(text):
    """Tell the list of rows that the text writes."""
    asked_for_text(text)
    if text == "":
        return []
    lines = text.split("\n")
    if len(lines) > TOP_ROWS:
        raise NoText(f"code of more than {TOP_ROWS} rows")
    return [read_row(line) for line in lines]
