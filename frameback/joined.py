"""Code laid by a number, and parts joined into one code and one table."""

from frameback.bounds import TOP_ROWS
from frameback.errors import NoTable
from frameback.tables import Table


def laid(code, by):
    """Tell the rows of the code, each with its target so much greater."""
    return [row.laid(by) for row in code]


def joined(parts):
    """Tell the rows and the tables of all parts, tuples (code, table), as one code and one table."""
    # Asked ahead of all: else a target that the rows ahead push out of bounds would be refused first.
    if sum([len(part[0]) for part in parts]) > TOP_ROWS:
        raise NoTable(f"more than {TOP_ROWS} rows in all")
    code = []
    entries = []
    landings = {}
    for rows, table in parts:
        ahead = len(code)
        code.extend(laid(rows, ahead))
        entries.extend(table.entries)
        for call, landing in table.landings.items():
            landings[call + ahead] = landing + ahead
    return (code, Table(entries, landings))
