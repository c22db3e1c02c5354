"""The checker: holds a code and a table against one another."""

from frameback.bounds import TOP_CELLS
from frameback.rows import FIRST_CELL_BIT, box_place
from frameback.tables import KEPT_BOXES, START, sets_of
from frameback.ways import Back, Call

# What a complaint calls each of an entry's four sets.
SET_NAMES = ("back", 4, 5, 6)


def is_row(number, entries):
    """Tell whether there is a row of this number."""
    return 0 <= number < len(entries)


def has_wrong_place(entry):
    """Tell whether the entry has a height or a set that can't be."""
    high = entry[0]
    if high < 0 or high > TOP_CELLS:
        return True
    beyond = FIRST_CELL_BIT + high
    return any([places <= 0 or places >> beyond != 0 for places in sets_of(entry)])


def may_go_back(row, entry):
    """Tell whether a Back at this entry goes back as the function was called."""
    if entry[0] != 0 or not entry[1] & box_place(row.box):
        return False
    return all([places & box_place(box) for box, places in zip(KEPT_BOXES, entry[2])])


def own_complaint(row, entry):
    """Tell what is wrong with the row by its own entry, or None."""
    if has_wrong_place(entry):
        return "place"
    if row.height(entry[0]) is None:
        return "height"
    if isinstance(row, Back) and not may_go_back(row, entry):
        return "back"
    return None


def way_complaint(row, entry, coming, entries):
    """Tell what is wrong with the way from the row to the one that comes next, or None."""
    if not is_row(coming, entries):
        return "row"
    there = entries[coming]
    if there is None:
        return "none"
    if there[0] != row.height(entry[0]):
        return "height"
    for name, ours, theirs in zip(SET_NAMES, sets_of(entry), sets_of(there)):
        if theirs & ~row.keeps(ours, entry[0]):
            return name
    return None


def target_complaint(row, entries):
    """Tell what is wrong with the row that a Call goes to, or None."""
    if not is_row(row.target, entries):
        return "row"
    return None if entries[row.target] == START else "start"


def each_once(numbers):
    """Tell the numbers in their order, each once."""
    told = []
    for number in numbers:
        if number not in told:
            told.append(number)
    return told


def row_complaints(code, entries, at):
    """Tell the complaints of one row."""
    row = code[at]
    entry = entries[at]
    if entry is None:
        return []
    own = own_complaint(row, entry)
    if own is not None:
        return [(at, at, own)]
    found = [(at, coming, way_complaint(row, entry, coming, entries)) for coming in each_once(row.goes(at))]
    if isinstance(row, Call):
        found.append((at, row.target, target_complaint(row, entries)))
    return [complaint for complaint in found if complaint[2] is not None]


def landing_complaint(code, entries, at, landing):
    """Tell what is wrong with the landing of a call row, or None."""
    if not is_row(at, entries) or not isinstance(code[at], Call):
        return "call"
    entry = entries[at]
    if entry is None or own_complaint(code[at], entry) is not None:
        return None
    return way_complaint(code[at], entry, landing, entries)


def checked(code, table):
    """Tell all complaints of a code and a table; none where they are let by."""
    entries = table.entries
    if len(entries) != len(code):
        return [(-1, -1, "length")]
    complaints = []
    if len(code) > 0 and entries[0] != START:
        complaints.append((-1, 0, "start"))
    for at in range(len(code)):
        complaints.extend(row_complaints(code, entries, at))
    for at in sorted(table.landings):
        landing = table.landings[at]
        what = landing_complaint(code, entries, at, landing)
        if what is not None:
            complaints.append((at, landing, what))
    return complaints
