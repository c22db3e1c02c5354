"""Numbers as they are written in texts."""

from frameback.errors import NoText

FIGURES = "0123456789"
MOST_FIGURES = 10


def is_number(word):
    """Tell whether the word is a number of one to ten figures, without a nought ahead but in 0 itself."""
    if word == "" or len(word) > MOST_FIGURES:
        return False
    if word[0] == "0" and word != "0":
        return False
    # Python calls other signs digits too, so each one is looked up.
    return all([sign in FIGURES for sign in word])


def read_number(word):
    """Tell the number that the word writes, or refuse it with NoText."""
    if not is_number(word):
        raise NoText("a number is written by one to ten figures, without noughts ahead")
    return int(word)
