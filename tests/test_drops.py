"""Point 16: where a drop lands."""

import unittest

from frameback.machine import Machine
from frameback.rows import Get, Grow, Put, Set, Shrink
from frameback.tables import START, Table
from frameback.ways import Back, Call, Drop, Jump

SEVEN = [10, 11, 12, 13, 14, 15, 16]
KEPT = (14, 15, 16)
CELL = [2 ** (8 + cell) for cell in range(4)]

# The function at row 0 calls the one at row 4, which calls the one at row 10, which drops.
CODE = [
    Grow(1), Put(7, 0), Call(4), Jump(3),
    Grow(3), Put(7, 2), Put(4, 1), Set(4, 44), Call(10), Jump(9),
    Set(2, 22), Drop(3),
]
BEHIND_FIRST = (1, CELL[0], (16, 32, 64))
BEHIND_SECOND = (3, CELL[0], (CELL[1], 32, 64))
ENTRIES = [START, None, None, BEHIND_FIRST, START, None, None, None, None, BEHIND_SECOND, START, START]
HOME = 12
BOOK = [(9, (44, 15, 16), 4), (3, KEPT, 1), (HOME, KEPT, 0)]


def dropping(landings, values=SEVEN, changed=None, rows=None):
    """A machine that has come to the drop; entries and rows may be changed by their numbers."""
    code, entries = list(CODE), list(ENTRIES)
    for at, entry in (changed or {}).items():
        entries[at] = entry
    for at, row in (rows or {}).items():
        code[at] = row
    made = Machine(code, Table(entries, landings), values)
    for time in range(9):
        made.step()
    return made


class Drops(unittest.TestCase):
    def told(self, made):
        return (made.at(), made.boxes(), made.pile(), made.word(), made.book(), made.fault())

    def lands(self, made, at, boxes, pile, book, word="runs"):
        self.assertEqual((made.at(), made.word(), made.book()), (11, "runs", BOOK))
        made.step()
        self.assertEqual(self.told(made), (at, boxes, pile, word, book, None))

    def stays(self, made, word, fault=None):
        before = self.told(made)
        self.assertEqual(before[3], "runs")
        for time in range(3):
            made.step()
            self.assertEqual(self.told(made), before[:3] + (word,) + before[4:5] + (fault,))


class Landings(Drops):
    def test_ahead_of_the_drop(self):
        boxes = [10, 11, 22, 13, 44, 15, 16, 9]
        self.assertEqual(self.told(dropping({})), (11, boxes, [12, 3, 14, 0], "runs", BOOK, None))

    def test_at_the_newest_caller(self):
        for landings in ({8: 7}, {8: 7, 2: 0}):
            self.lands(dropping(landings), 7, [13, 11, 22, 13, 44, 15, 16, 9], [12, 3, 14, 0], BOOK[1:])

    def test_at_a_later_caller(self):
        self.lands(dropping({2: 3}), 3, [13, 11, 22, 13, 14, 15, 16, 9], [12], BOOK[2:])

    def test_the_rest_goes_on_from_there(self):
        made = dropping({2: 3})
        for time in range(5):
            made.step()
            self.assertEqual((made.at(), made.pile(), made.word()), (3, [12], "runs"))

    def test_at_home_it_ends(self):
        self.lands(dropping({8: HOME}), HOME, [13, 11, 22, 13, 44, 15, 16, 9], [12, 3, 14, 0], BOOK[1:], "ended")
        self.lands(dropping({2: HOME}), HOME, [13, 11, 22, 13, 14, 15, 16, 9], [12], BOOK[2:], "ended")
        made = dropping({2: HOME})
        made.step()
        before = self.told(made)
        made.step()
        self.assertEqual(self.told(made), before)

    def test_at_row_0(self):
        self.lands(dropping({8: 0}), 0, [13, 11, 22, 13, 44, 15, 16, 9], [12, 3, 14, 0], BOOK[1:])

    def test_a_landing_that_is_no_row_is_a_fault(self):
        for landing in (-1, -HOME, HOME + 1, 2000, 10 ** 49, -10 ** 49):
            self.stays(dropping({8: landing}), "fault")
            self.stays(dropping({2: landing}), "fault")
            # A later one that would do is not looked for.
            self.stays(dropping({8: landing, 2: 3}), "fault")

    def test_every_box_may_be_dropped(self):
        boxes = [10, 11, 22, 13, 44, 15, 16, 9]
        for box in range(8):
            made = dropping({2: 3}, rows={11: Drop(box)})
            self.lands(made, 3, [boxes[box], 11, 22, 13, 14, 15, 16, 9], [12], BOOK[2:])

    def test_the_values_of_the_caller_come_from_the_reader(self):
        # By this entry box 5's value lies in the cell that holds nought, and the length is shorter by one.
        changed = {11: (1, 128, (16, CELL[0], 64))}
        self.lands(dropping({8: 7}, changed=changed), 7, [13, 11, 22, 13, 44, 0, 16, 9], [12, 3, 14], BOOK[1:])


class NowhereToLand(Drops):
    def test_without_landings(self):
        self.stays(dropping({}), "dropped", 13)

    def test_the_value_nought(self):
        self.stays(dropping({}, [10, 11, 12, 0, 14, 15, 16]), "dropped", 0)

    def test_landings_of_other_rows_do_not_count(self):
        landings = {at: 3 for at in range(-1, HOME + 2) if at not in (2, 8)}
        self.stays(dropping(landings), "dropped", 13)

    def test_a_landing_ahead_of_home_does_not_count(self):
        # The last caller goes on at HOME, and the row ahead of it is no call.
        self.stays(dropping({HOME - 1: 3}), "dropped", 13)

    def test_a_call_in_the_last_row_does_not_count_either(self):
        code = [Grow(1), Put(7, 0), Jump(4), Drop(0), Call(3)]
        made = Machine(code, Table([START, None, None, START, None], {4: 0}), SEVEN)
        for time in range(4):
            made.step()
        self.stays(made, "dropped", 10)
        self.assertEqual(made.book(), [(5, KEPT, 1), (5, KEPT, 0)])

    def test_the_function_that_drops_lands_nowhere_by_itself(self):
        # The row ahead of the drop is a call that came back, with a landing.
        code = [Grow(1), Put(7, 0), Call(4), Drop(0), Back(7)]
        made = Machine(code, Table([START, None, None, BEHIND_FIRST, START], {2: 0, 3: 0}), SEVEN)
        for time in range(4):
            made.step()
        self.stays(made, "dropped", 10)

    def test_at_once(self):
        made = Machine([Drop(6)], Table([START], {0: 0}), SEVEN)
        self.stays(made, "dropped", 16)


class TheReaderAstray(Drops):
    def test_is_a_fault(self):
        for at, entry in ((11, None), (11, (0, 0, (16, 32, 64))), (11, (5, 128, (16, 32, 64))),
                          (9, None), (9, (1, CELL[1], (16, 32, 64))), (3, None), (3, (0, 128, (16, 32, 64)))):
            self.stays(dropping({}, changed={at: entry}), "fault")

    def test_also_where_a_newer_caller_has_a_landing(self):
        for at in (9, 3):
            self.stays(dropping({8: 7}, changed={at: None}), "fault")
            self.stays(dropping({8: 7, 2: 3}, changed={at: None}), "fault")

    def test_the_machine_never_looks_at_the_book_for_it(self):
        # Nobody was called, but by the table the row told by box 7 is a caller's.
        code = [Set(7, 3), Drop(0), Jump(2), Drop(0)]
        entries = [START, START, None, (0, 16, (16, 32, 64))]
        made = Machine(code, Table(entries, {2: 2}), [10, 11, 12, 13, 4, 15, 16])
        made.step()
        made.step()
        boxes = [10, 11, 12, 13, 4, 15, 16, 3]
        self.assertEqual(self.told(made), (2, boxes, [], "runs", [], None))

    def test_the_book_has_fewer_than_were_looked_at(self):
        code = [Set(7, 4), Drop(0), Jump(2), Drop(0), Drop(0), Drop(0)]
        entries = [START, START, None, (0, 32, (16, 32, 64)), (0, 16, (16, 32, 64)), None]
        made = Machine(code, Table(entries, {2: 2}), [10, 11, 12, 13, 3, 6, 16])
        made.step()
        self.assertEqual(made.book(), [(6, (3, 6, 16), 0)])
        made.step()
        self.assertEqual((made.at(), made.word(), made.book()), (2, "runs", []))


class BookBehindLandings(Drops):
    def test_a_function_that_drops_again_and_again(self):
        # The landing calls again, the called one drops again.
        code = [Grow(1), Put(7, 0), Call(6), Get(7, 0), Shrink(1), Back(7), Drop(0)]
        table = Table([START, None, None, BEHIND_FIRST, None, None, START], {2: 2})
        made = Machine(code, table, SEVEN)
        for time in range(2):
            made.step()
        for time in range(5):
            self.assertEqual((made.at(), made.book()), (2, [(7, KEPT, 0)]))
            made.step()
            self.assertEqual((made.at(), made.book()), (6, [(3, KEPT, 1), (7, KEPT, 0)]))
            made.step()

    def test_it_ends_behind_a_landing(self):
        code = [Grow(1), Put(7, 0), Call(6), Get(7, 0), Shrink(1), Back(7), Drop(3)]
        table = Table([START, None, None, BEHIND_FIRST, None, None, START], {2: 3})
        made = Machine(code, table, SEVEN)
        for time in range(7):
            made.step()
        self.assertEqual(self.told(made), (7, [13, 11, 12, 13, 14, 15, 16, 7], [], "ended", [], None))


if __name__ == "__main__":
    unittest.main()
