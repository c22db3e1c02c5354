"""A second, plain telling of what DOC.md says of the checker and the guess, to hold the program against.

It goes by where each place's content comes from, and by all ways through a code, one state at a time; so it is slow,
and shares nothing with the program but what a row tells of itself.
"""

from frameback.tables import START

KINDS_OF_FILL = ("set", "add", "sub", "mul", "less")
VALUES = ("back", 4, 5, 6)
STARTS = (128, 16, 32, 64)


def members(places):
    return {bit for bit in range(places.bit_length()) if places >> bit & 1}


def bits(places):
    return sum(2 ** place for place in places)


def four(entry):
    return (entry[1], *entry[2])


def height_behind(told, high):
    word = told[0]
    if word == "grow":
        return high + told[1] if high + told[1] <= 4000 else None
    if word == "shrink":
        return high - told[1] if high >= told[1] else None
    if word in ("put", "get"):
        return high if told[2] < high else None
    return high


def source(told, place, high):
    """The place ahead of the row whose value lies at the place behind it; None where a new one lies there."""
    word = told[0]
    if word in KINDS_OF_FILL and place == told[1]:
        return None
    if word == "copy" and place == told[1]:
        return told[2]
    if word in ("get", "put"):
        cell = 8 + high - 1 - told[2]
        if word == "get" and place == told[1]:
            return cell
        if word == "put" and place == cell:
            return told[1]
    if word == "call" and place in (0, 1, 2, 3, 7):
        return None
    return place if place < 8 + high else None


def kept(told, places, high):
    """The set of places (a Python set) that the row keeps."""
    behind = height_behind(told, high)
    return {place for place in range(8 + behind) if source(told, place, high) in places}


def next_rows(told, at):
    word = told[0]
    if word == "jump":
        return [told[1]]
    if word == "branch":
        return [at + 1] + ([told[2]] if told[2] != at + 1 else [])
    return [] if word in ("back", "drop") else [at + 1]


def of_itself(told, entry):
    high = entry[0]
    if not 0 <= high <= 4000:
        return "place"
    if any(places <= 0 or max(members(places)) >= 8 + high for places in four(entry)):
        return "place"
    if height_behind(told, high) is None:
        return "height"
    if told[0] == "back":
        if high != 0 or told[1] not in members(entry[1]):
            return "back"
        if any(box not in members(entry[2][box - 4]) for box in (4, 5, 6)):
            return "back"
    return None


def of_way(told, entry, entries, coming):
    if not 0 <= coming < len(entries):
        return "row"
    if entries[coming] is None:
        return "none"
    if entries[coming][0] != height_behind(told, entry[0]):
        return "height"
    for name, ours, theirs in zip(VALUES, four(entry), four(entries[coming])):
        if not members(theirs) <= kept(told, members(ours), entry[0]):
            return name
    return None


def plain_checked(code, table):
    """The complaints of points 19 and 20, of tables without sets below 0."""
    rows, entries = [row.told() for row in code], table.entries
    if len(rows) != len(entries):
        return [(-1, -1, "length")]
    told = [(-1, 0, "start")] if rows and entries[0] != START else []
    for at, (row, entry) in enumerate(zip(rows, entries)):
        if entry is None:
            continue
        if of_itself(row, entry) is not None:
            told.append((at, at, of_itself(row, entry)))
            continue
        told += [(at, coming, of_way(row, entry, entries, coming)) for coming in next_rows(row, at)]
        if row[0] == "call":
            target = row[1]
            fault = "row" if target >= len(rows) else "start" if entries[target] != START else None
            told.append((at, target, fault))
    for at, landing in sorted(table.landings.items()):
        if not 0 <= at < len(rows) or rows[at][0] != "call":
            told.append((at, landing, "call"))
        elif entries[at] is not None and of_itself(rows[at], entries[at]) is None:
            told.append((at, landing, of_way(rows[at], entries[at], entries, landing)))
    return [complaint for complaint in told if complaint[2] is not None]


def ways_of(rows, landings, at):
    """Pairs (row, whether a function begins there) of what may come behind a row."""
    ways = [(coming, False) for coming in next_rows(rows[at], at)]
    if rows[at][0] == "call":
        ways.append((rows[at][1], True))
        if at in landings:
            ways.append((landings[at], False))
    return ways


def states(rows, landings, first):
    """All (height, places) with which each row is come to on some way; None where a way can't be gone on."""
    seen = {(0, 0, frozenset(members(first)))}
    waiting = list(seen)
    while waiting:
        at, high, places = waiting.pop()
        behind = height_behind(rows[at], high)
        if behind is None:
            return None
        for coming, begins in ways_of(rows, landings, at):
            if not 0 <= coming < len(rows):
                return None
            left = members(first) if begins else kept(rows[at], places, high)
            state = (coming, 0 if begins else behind, frozenset(left))
            if state not in seen:
                seen.add(state)
                waiting.append(state)
                # A piece that grows on each turn would have states without end; its heights part anyhow.
                if len({other[1] for other in seen if other[0] == coming}) > 1:
                    return None
    return [[state[1:] for state in seen if state[0] == at] for at in range(len(rows))]


def plain_guess(code, landings):
    """The entries of point 22, or None where it is to be refused with NoTable."""
    rows = [row.told() for row in code]
    if any(not 0 <= at < len(rows) or rows[at][0] != "call" for at in landings):
        return None
    if not rows:
        return []
    found = [states(rows, landings, first) for first in STARTS]
    if None in found:
        return None
    entries = []
    for at, row in enumerate(rows):
        if not found[0][at]:
            entries.append(None)
            continue
        sets = [bits(frozenset.intersection(*[places for high, places in each[at]])) for each in found]
        entry = (found[0][at][0][0], sets[0], tuple(sets[1:]))
        begins = at == 0 or any(entries_to == at for entries_to in begun(rows, found))
        if of_itself(row, entry) is not None or begins and entry != START:
            return None
        entries.append(entry)
    return entries


def begun(rows, found):
    """The rows at which calls that may be come to go on."""
    return [row[1] for at, row in enumerate(rows) if row[0] == "call" and found[0][at]]
