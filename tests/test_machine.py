"""Points 14, 15, 2 and 6: the machine, its words, its steps and its plain book."""

import unittest

from frameback.machine import Machine
from frameback.rows import Add, Copy, Get, Grow, Less, Mul, Put, Set, Shrink, Sub
from frameback.tables import START, Table
from frameback.ways import Back, Branch, Call, Drop, Jump
from tests.samples import VALUE

SEVEN = [10, 11, 12, 13, 14, 15, 16]
KEPT = (14, 15, 16)


def no_table(code):
    return Table([None] * len(code))


def machine(code, values=SEVEN, start=0, landings=None):
    return Machine(code, Table([START] * len(code), landings), values, start)


def stepped(made, many):
    for time in range(many):
        made.step()
    return made


class Steps(unittest.TestCase):
    def stands(self, made, at, boxes, pile, word, book, fault=None):
        told = (made.at(), made.boxes(), made.pile(), made.word(), made.book(), made.fault())
        self.assertEqual(told, (at, boxes, pile, word, book, fault))

    def stays(self, made):
        """No step changes anything any more."""
        before = (made.at(), made.boxes(), made.pile(), made.word(), made.book(), made.fault())
        for time in range(3):
            self.assertIsNone(made.step())
            told = (made.at(), made.boxes(), made.pile(), made.word(), made.book(), made.fault())
            self.assertEqual(told, before)


class Begin(Steps):
    def test_at_row_0(self):
        code = [Set(0, 1), Back(7)]
        self.stands(Machine(code, no_table(code), SEVEN), 0, SEVEN + [2], [], "runs", [(2, KEPT, 0)])

    def test_at_another_row(self):
        code = [Set(0, 1), Set(1, 1), Back(7)]
        for start in (0, 1, 2):
            made = Machine(code, no_table(code), SEVEN, start)
            self.stands(made, start, SEVEN + [3], [], "runs", [(3, KEPT, 0)])
        made = stepped(Machine(code, no_table(code), SEVEN, 1), 1)
        self.stands(made, 2, [10, 1, 12, 13, 14, 15, 16, 3], [], "runs", [(3, KEPT, 0)])

    def test_by_the_names_of_the_arguments(self):
        made = Machine(code=[Back(7)], table=Table([START]), boxes=SEVEN, start=1)
        self.stands(made, 1, SEVEN + [1], [], "ended", [(1, KEPT, 0)])

    def test_at_home_it_has_ended_at_once(self):
        code = [Set(0, 1), Back(7)]
        made = Machine(code, no_table(code), SEVEN, 2)
        self.stands(made, 2, SEVEN + [2], [], "ended", [(2, KEPT, 0)])
        self.stays(made)

    def test_code_without_rows(self):
        for made in (Machine([], Table([]), SEVEN), Machine([], Table([]), SEVEN, 0)):
            self.stands(made, 0, SEVEN + [0], [], "ended", [(0, KEPT, 0)])
            self.stays(made)

    def test_a_start_that_is_no_row_is_a_fault(self):
        code = [Set(0, 1), Back(7)]
        for start in (-1, -2, 3, 4):
            made = Machine(code, no_table(code), SEVEN, start)
            self.stands(made, start, SEVEN + [2], [], "fault", [(2, KEPT, 0)])
            self.stays(made)


class EachKind(Steps):
    def after(self, rows, boxes, pile, at=None):
        """The rows done, one step each, lead to these boxes 0 to 6 and this pile."""
        code = rows + [Jump(0)] * 5
        made = stepped(Machine(code, no_table(code), SEVEN), len(rows))
        home = len(code)
        self.stands(made, len(rows) if at is None else at, boxes + [home], pile, "runs", [(home, KEPT, 0)])

    def test_boxes(self):
        self.after([Set(1, VALUE)], [10, VALUE, 12, 13, 14, 15, 16], [])
        self.after([Copy(6, 0)], [10, 11, 12, 13, 14, 15, 10], [])
        self.after([Add(0, 1, 2)], [23, 11, 12, 13, 14, 15, 16], [])
        self.after([Sub(0, 1, 2)], [VALUE, 11, 12, 13, 14, 15, 16], [])
        self.after([Mul(0, 1, 2)], [132, 11, 12, 13, 14, 15, 16], [])
        self.after([Less(0, 1, 2)], [1, 11, 12, 13, 14, 15, 16], [])
        self.after([Less(0, 2, 1)], [0, 11, 12, 13, 14, 15, 16], [])

    def test_pile(self):
        self.after([Grow(2)], SEVEN, [0, 0])
        self.after([Grow(2), Put(4, 0)], SEVEN, [0, 14])
        self.after([Grow(2), Put(4, 1)], SEVEN, [14, 0])
        self.after([Grow(2), Put(4, 1), Shrink(1)], SEVEN, [14])
        self.after([Grow(1), Put(4, 0), Get(0, 0)], [14, 11, 12, 13, 14, 15, 16], [14])

    def test_ways(self):
        self.after([Jump(3)], SEVEN, [], 3)
        self.after([Branch(0, 3)], SEVEN, [], 3)
        self.after([Set(0, 0), Branch(0, 4)], [0, 11, 12, 13, 14, 15, 16], [], 2)

    def test_a_jump_to_itself_runs_on(self):
        made = stepped(machine([Jump(0)]), 500)
        self.stands(made, 0, SEVEN + [1], [], "runs", [(1, KEPT, 0)])


class Ends(Steps):
    def test_by_going_back(self):
        made = stepped(machine([Set(0, 5), Back(7)]), 2)
        self.stands(made, 2, [5, 11, 12, 13, 14, 15, 16, 2], [], "ended", [])
        self.stays(made)

    def test_by_the_row_behind_the_last(self):
        made = stepped(machine([Grow(1), Set(0, 5)]), 2)
        self.stands(made, 2, [5, 11, 12, 13, 14, 15, 16, 2], [0], "ended", [(2, KEPT, 0)])
        self.stays(made)

    def test_by_a_jump_a_branch_and_a_call(self):
        for row in (Jump(2), Branch(0, 2)):
            made = stepped(machine([row, Drop(0)]), 1)
            self.stands(made, 2, SEVEN + [2], [], "ended", [(2, KEPT, 0)])
            self.stays(made)
        made = stepped(machine([Call(2), Drop(0)]), 1)
        self.stands(made, 2, SEVEN + [1], [], "ended", [(1, KEPT, 0), (2, KEPT, 0)])
        self.stays(made)


class Faults(Steps):
    def fault(self, rows, at, boxes=SEVEN, pile=(), values=SEVEN):
        """The last row done is a fault; all is as it was ahead of it."""
        made = stepped(Machine(rows, no_table(rows), values), at + 1)
        self.stands(made, at, list(boxes) + [len(rows)], list(pile), "fault", [(len(rows), KEPT, 0)])
        self.stays(made)

    def test_rows_that_cannot_be_done(self):
        self.fault([Shrink(1), Back(7)], 0)
        self.fault([Put(0, 0), Back(7)], 0)
        self.fault([Get(0, 0), Back(7)], 0)
        self.fault([Grow(4000), Grow(1), Back(7)], 1, pile=[0] * 4000)
        self.fault([Grow(2), Put(4, 0), Shrink(3)], 2, pile=[0, 14])
        self.fault([Grow(2), Put(4, 0), Get(0, 2)], 2, pile=[0, 14])

    def test_a_row_beyond_home(self):
        self.fault([Jump(2)], 0)
        self.fault([Branch(0, 2)], 0)
        self.fault([Call(2)], 0)
        self.fault([Jump(2000)], 0)
        self.fault([Back(0)], 0)
        self.fault([Set(0, 3), Back(0)], 1, boxes=[3, 11, 12, 13, 14, 15, 16])
        self.fault([Grow(1), Put(4, 0), Call(2000)], 2, pile=[14])

    def test_a_branch_that_is_not_gone_is_none(self):
        made = stepped(machine([Branch(0, 2000), Back(7)], [0] + SEVEN[1:]), 1)
        self.stands(made, 1, [0, 11, 12, 13, 14, 15, 16, 2], [], "runs", [(2, KEPT, 0)])

    def test_the_book_stays_behind_calls(self):
        code = [Call(1), Back(0)]
        made = stepped(machine(code, [9] + SEVEN[1:]), 2)
        self.stands(made, 1, [9, 11, 12, 13, 14, 15, 16, 1], [], "fault", [(1, KEPT, 0), (2, KEPT, 0)])
        self.stays(made)


class Books(Steps):
    def test_a_call_is_put_in_and_taken_out(self):
        code = [Grow(2), Call(4), Set(0, 3), Jump(5), Back(7), Jump(2)]
        made = stepped(machine(code), 2)
        self.stands(made, 4, SEVEN + [2], [0, 0], "runs", [(2, KEPT, 2), (6, KEPT, 0)])
        made.step()
        self.stands(made, 2, SEVEN + [2], [0, 0], "runs", [(6, KEPT, 0)])

    def test_it_has_the_kept_values_and_the_length_at_the_call(self):
        code = [Set(4, 1), Set(5, 2), Set(6, 3), Grow(3), Call(5), Set(4, 9), Shrink(3), Set(6, 8), Grow(1), Call(9)]
        made = stepped(machine(code), 10)
        expected = [(10, (9, 2, 8), 1), (5, (1, 2, 3), 3), (10, KEPT, 0)]
        self.stands(made, 9, [10, 11, 12, 13, 9, 2, 8, 10], [0], "runs", expected)
        for call in made.book():
            self.assertIs(call.__class__, tuple)
            self.assertIs(call[1].__class__, tuple)

    def test_the_newest_stands_first(self):
        code = [Set(4, 1), Call(2), Set(4, 2), Call(4), Set(4, 3), Call(6), Jump(6)]
        made = stepped(machine(code), 6)
        book = [(6, (3, 15, 16), 0), (4, (2, 15, 16), 0), (2, (1, 15, 16), 0), (7, KEPT, 0)]
        self.assertEqual(made.book(), book)

    def test_a_back_takes_the_newest_out_wherever_it_goes(self):
        code = [Call(1), Call(2), Set(0, 4), Back(0), Jump(4)]
        made = stepped(machine(code), 4)
        self.stands(made, 4, [4, 11, 12, 13, 14, 15, 16, 2], [], "runs", [(1, KEPT, 0), (5, KEPT, 0)])

    def test_more_backs_than_calls(self):
        code = [Set(0, 0), Back(0)]
        made = machine(code)
        for book in ([(2, KEPT, 0)], [(2, KEPT, 0)], [], [], [], []):
            self.assertEqual((made.book(), made.word()), (book, "runs"))
            made.step()
        code = [Set(0, 3), Back(0), Jump(0), Call(1)]
        made = stepped(machine(code), 2)
        self.assertEqual(made.book(), [])
        made.step()
        self.assertEqual((made.at(), made.book()), (1, [(4, KEPT, 0)]))
        made.step()
        self.assertEqual((made.at(), made.book()), (3, []))

    def test_a_back_that_ends_takes_one_out_too(self):
        code = [Call(1), Set(0, 3), Back(0)]
        made = stepped(machine(code), 3)
        self.stands(made, 3, [3, 11, 12, 13, 14, 15, 16, 1], [], "ended", [(3, KEPT, 0)])

    def test_many_calls(self):
        made = stepped(machine([Call(0)]), 6000)
        self.assertEqual(made.book(), [(1, KEPT, 0)] * 6001)
        self.assertEqual(made.word(), "runs")


class NothingIsShared(Steps):
    def test_what_is_told_is_the_askers_own(self):
        code = [Grow(1), Call(2), Jump(2)]
        made = stepped(machine(code), 2)
        for told in (made.boxes(), made.pile(), made.book()):
            self.assertIs(told.__class__, list)
            told.append(99)
            told[0] = 98
        self.stands(made, 2, SEVEN + [2], [0], "runs", [(2, KEPT, 1), (3, KEPT, 0)])
        made.step()
        self.stands(made, 2, SEVEN + [2], [0], "runs", [(2, KEPT, 1), (3, KEPT, 0)])

    def test_what_was_handed_in_may_be_changed_behind_the_call(self):
        code = [Grow(1), Put(7, 0), Call(4), Jump(3), Drop(0)]
        table = Table([START, None, None, (1, 256, (16, 32, 64)), START], {2: 3})
        values = list(SEVEN)
        made = Machine(code, table, values)
        code.clear()
        table.entries.clear()
        table.landings.clear()
        values.clear()
        self.stands(made, 0, SEVEN + [5], [], "runs", [(5, KEPT, 0)])
        stepped(made, 4)
        self.stands(made, 3, SEVEN + [3], [5], "runs", [(5, KEPT, 0)])

    def test_what_is_handed_in_stays(self):
        code = [Grow(1), Put(7, 0), Call(6), Get(7, 0), Shrink(1), Back(7), Drop(0)]
        rows = list(code)
        entries = [START, None, None, (1, 256, (16, 32, 64)), None, None, START]
        table = Table(entries, {2: 3})
        values = list(SEVEN)
        self.assertEqual(stepped(Machine(code, table, values), 20).word(), "ended")
        self.assertTrue(all(one is other for one, other in zip(code, rows)) and len(code) == len(rows))
        self.assertEqual((table.entries, table.landings, values), (entries, {2: 3}, SEVEN))

    def test_two_machines_of_one_code_go_each_their_own_way(self):
        code = [Grow(1), Call(0)]
        one, other = machine(code), machine(code)
        stepped(one, 5)
        self.stands(other, 0, SEVEN + [2], [], "runs", [(2, KEPT, 0)])
        stepped(other, 5)
        self.assertEqual((one.at(), one.boxes(), one.pile(), one.book()),
                         (other.at(), other.boxes(), other.pile(), other.book()))


if __name__ == "__main__":
    unittest.main()
