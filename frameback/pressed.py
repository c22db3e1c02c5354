"""Tables pressed into short rows, and read from them."""

from frameback.bounds import TOP_ROWS, is_whole
from frameback.errors import NoTable
from frameback.tables import START, Table, sets_of

# How many numbers stand behind the word of each short row.
COUNTS = {"height": 1, "place": 2, "keep": 0, "again": 0, "same": 1, "none": 1, "land": 2}
# How a short row calls each of an entry's four sets.
WHICH = (0, 4, 5, 6)


def has_form(row):
    """Tell whether this is a tuple of a short row's word and as many whole numbers as it has."""
    if not isinstance(row, tuple) or len(row) == 0 or not isinstance(row[0], str):
        return False
    if row[0] not in COUNTS or len(row) != 1 + COUNTS[row[0]]:
        return False
    return all([is_whole(number) for number in row[1:]])


def is_short_row(row):
    """Tell whether this is a short row with numbers that it may have."""
    if not has_form(row):
        return False
    if row[0] == "place":
        return row[1] in WHICH
    if row[0] == "same" or row[0] == "none":
        return row[1] >= 1
    return True


def with_set(entry, which, places):
    """Tell the entry with this set in the place of one of its four."""
    sets = [places if name == which else old for name, old in zip(WHICH, sets_of(entry))]
    return (entry[0], sets[0], (sets[1], sets[2], sets[3]))


class Reading:
    """Short rows read one after another: what they have told so far."""

    def __init__(self):
        self.entry = START
        self.laid_by = []
        self.entries = []
        self.landings = {}

    def take(self, row):
        """Read one more short row, or refuse it with NoTable."""
        if not is_short_row(row):
            raise NoTable("this is no short row")
        word = row[0]
        if word == "height":
            self.entry = (row[1], self.entry[1], self.entry[2])
        elif word == "place":
            self.entry = with_set(self.entry, row[1], row[2])
        elif word == "keep":
            self.laid_by.append(self.entry)
        elif word == "again":
            self.take_again()
        elif word == "land":
            self.tell_landing(row[1], row[2])
        else:
            self.tell_entries(self.entry if word == "same" else None, row[1])

    def take_again(self):
        """Put the entry that was laid by last in the entry's stead."""
        if len(self.laid_by) == 0:
            raise NoTable("nothing is laid by")
        self.entry = self.laid_by.pop()

    def tell_landing(self, call, row):
        """Tell the landing of a call row."""
        if call in self.landings:
            raise NoTable("a call row with two landings")
        self.landings[call] = row

    def tell_entries(self, entry, many):
        """Tell the entry for the next so many rows of code."""
        if len(self.entries) + many > TOP_ROWS:
            raise NoTable(f"more than {TOP_ROWS} entries")
        self.entries.extend([entry] * many)


def unpressed(rows):
    """Tell the table that the short rows write."""
    reading = Reading()
    for row in rows:
        reading.take(row)
    return Table(reading.entries, reading.landings)


def entry_at(rows, row):
    """Tell the entry of one row of code, by the short rows up to the one that tells it."""
    if row < 0:
        raise NoTable("a row's number is from 0 on")
    reading = Reading()
    for short in rows:
        reading.take(short)
        if len(reading.entries) > row:
            return reading.entries[row]
    raise NoTable("the short rows end ahead of this row")


def stretches(entries):
    """Tell each entry that stands in neighbouring rows once, with the number of these rows."""
    told = []
    for entry in entries:
        if len(told) > 0 and told[-1][0] == entry:
            told[-1] = (entry, told[-1][1] + 1)
        else:
            told.append((entry, 1))
    return told


def changes(known, entry):
    """Tell the short rows by which the one entry becomes the other."""
    rows = []
    if known[0] != entry[0]:
        rows.append(("height", entry[0]))
    for which, old, new in zip(WHICH, sets_of(known), sets_of(entry)):
        if old != new:
            rows.append(("place", which, new))
    return rows


def press(table):
    """Tell short rows that are read as this table."""
    rows = []
    known = START
    for entry, many in stretches(table.entries):
        if entry is None:
            rows.append(("none", many))
        else:
            rows.extend(changes(known, entry))
            rows.append(("same", many))
            known = entry
    for call in sorted(table.landings):
        rows.append(("land", call, table.landings[call]))
    return rows
