"""A table for a code: the greatest one by which the checker lets it by."""

from frameback.checker import checked
from frameback.errors import NoTable
from frameback.tables import START, Table, sets_of
from frameback.ways import Call


def ways_on(code, landings, at):
    """Tell the rows to which the row's own function may go on from it."""
    ways = code[at].goes(at)
    if isinstance(code[at], Call) and at in landings:
        ways.append(landings[at])
    return ways


def reach(heights, waiting, at, high):
    """Note that a row is come to with a piece so high; refuse what no table tells."""
    if at < 0 or at >= len(heights):
        raise NoTable(f"a row that is none would come next: {at}")
    if heights[at] is None:
        heights[at] = high
        waiting.append(at)
    elif heights[at] != high:
        raise NoTable(f"pieces of different heights meet at row {at}")


def heights_of(code, ways):
    """Tell for each row the height of the piece ahead of it, or None where nothing may come."""
    heights = [None for row in code]
    waiting = []
    reach(heights, waiting, 0, START[0])
    while len(waiting) > 0:
        at = waiting.pop()
        behind = code[at].height(heights[at])
        if behind is None:
            raise NoTable(f"the row isn't allowed at its height: {at}")
        for coming in ways[at]:
            reach(heights, waiting, coming, behind)
        if isinstance(code[at], Call):
            reach(heights, waiting, code[at].target, START[0])
    return heights


def narrow(sets, changed, at, places):
    """Leave in the row's set only what is among the places, and note where that changed it."""
    left = places if sets[at] is None else sets[at] & places
    if left != sets[at]:
        sets[at] = left
        changed[at] = True


def places_of(code, ways, heights, first):
    """Tell for each row the places at which a value lies on every way, first being where it lies at a begin."""
    sets = [None for row in code]
    changed = {}
    narrow(sets, changed, 0, first)
    # Sets only ever get smaller, so this comes to an end: at the greatest sets that agree on every way.
    while len(changed) > 0:
        wave = list(changed)
        changed = {}
        for at in wave:
            kept = code[at].keeps(sets[at], heights[at])
            for coming in ways[at]:
                narrow(sets, changed, coming, kept)
            if isinstance(code[at], Call):
                narrow(sets, changed, code[at].target, first)
    return sets


def entries_of(code, landings):
    """Tell the entries of the greatest table, if there is one at all."""
    if len(code) == 0:
        return []
    ways = [ways_on(code, landings, at) for at in range(len(code))]
    heights = heights_of(code, ways)
    found = [places_of(code, ways, heights, first) for first in sets_of(START)]
    entries = []
    for high, back, four, five, six in zip(heights, found[0], found[1], found[2], found[3]):
        entries.append(None if high is None else (high, back, (four, five, six)))
    return entries


def guess(code, landings=None):
    """Tell the greatest table with these landings that lets the code by, or refuse it with NoTable."""
    known = {} if landings is None else landings
    table = Table(entries_of(code, known), known)
    # What even the greatest sets don't let by, no table does.
    if len(checked(code, table)) > 0:
        raise NoTable("no table with these landings lets the code by")
    return table
