"""A function's body as a plain list of moves: what stands within other statements is laid out in one row.

A move is a tuple. It is a statement as it stands (set, copy, sum, minus, product, less, call, drop, give, or a hand
that takes its function's place), or one of these: ("test", X, other) goes on at the move of the number other where X
is 0, ("try", other) and ("go", other) go on there always; at ("land", X) a dropped value lands, and X gets it;
("leave", X) leaves the function with the value of X.
"""

# Beside a function's names, for moves alone: what a hand waits for that doesn't take its function's place, and 0.
SPARE = 6
NOUGHT = 7


def add_if(moves, statement, landing):
    """Lay out an if: its SOME, then its OTHERS."""
    test = len(moves)
    moves.append(None)
    add_all(moves, statement[2], landing)
    go = len(moves)
    moves.append(None)
    moves[test] = (("test", statement[1], len(moves)), landing)
    add_all(moves, statement[3], landing)
    moves[go] = (("go", len(moves)), landing)


def add_while(moves, statement, landing):
    """Lay out a while: its test, then its SOME."""
    test = len(moves)
    moves.append(None)
    add_all(moves, statement[2], landing)
    moves.append((("go", test), landing))
    moves[test] = (("test", statement[1], len(moves)), landing)


def add_try(moves, statement, landing):
    """Lay out a try: its OTHERS ahead of its SOME, so that SOME knows where its drops land."""
    begin = len(moves)
    moves.append(None)
    own = len(moves)
    moves.append((("land", statement[2]), landing))
    add_all(moves, statement[3], landing)
    go = len(moves)
    moves.append(None)
    moves[begin] = (("try", len(moves)), landing)
    add_all(moves, statement[1], own)
    moves[go] = (("go", len(moves)), landing)


def add_hand(moves, statement, landing):
    """Lay out a hand: in the SOME of a try its function waits for the other one, as at a call."""
    if landing is None:
        moves.append((statement, landing))
    else:
        moves.append((("call", SPARE, statement[1], statement[2]), landing))
        moves.append((("leave", SPARE), landing))


def add_all(moves, statements, landing):
    """Lay out the statements behind the moves that are there; what is dropped in them lands at landing."""
    for statement in statements:
        if statement[0] == "if":
            add_if(moves, statement, landing)
        elif statement[0] == "while":
            add_while(moves, statement, landing)
        elif statement[0] == "try":
            add_try(moves, statement, landing)
        elif statement[0] == "hand":
            add_hand(moves, statement, landing)
        else:
            moves.append((statement, landing))


def moves_of(body):
    """Tell a body's moves, each as (move, landing): landing is the number of the land for a drop there, or None."""
    moves = []
    add_all(moves, body, None)
    moves.append((("leave", NOUGHT), None))
    return moves
