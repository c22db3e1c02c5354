"""Points 27, 11, 21, 2 and 3: code laid by a number, parts joined into one code and one table."""

import random
import unittest

from frameback.checker import checked
from frameback.errors import FrameError, NoRow, NoTable
from frameback.guess import guess
from frameback.joined import joined, laid
from frameback.machine import Machine
from frameback.reader import callers
from frameback.rows import Add, Get, Grow, Put, Set, Shrink
from frameback.tables import START, Table
from frameback.ways import Back, Branch, Call, Drop, Jump
from tests.functions import made_functions
from tests.samples import WITH_TARGET, sample_rows

HIGH = (2, 256, (16, 544, 64))


def told(code):
    return [row.told() for row in code]


class Asks(unittest.TestCase):
    def refused(self, kind, ask, *handed):
        with self.assertRaises(FrameError) as caught:
            ask(*handed)
        self.assertIs(caught.exception.__class__, kind)


class Laid(Asks):
    def test_each_kind_of_row(self):
        code = sample_rows()
        for by in (0, 1, 7, 100, 1988):
            moved = laid(code, by)
            self.assertIs(moved.__class__, list)
            for row, other in zip(code, moved, strict=True):
                self.assertIs(other.__class__, row.__class__)
                if row.told()[0] in WITH_TARGET:
                    self.assertEqual(other.told(), row.told()[:-1] + (row.told()[-1] + by,))
                else:
                    self.assertEqual(other.told(), row.told())

    def test_by_a_number_below_0(self):
        code = [Jump(9), Branch(3, 12), Set(1, 2), Call(2000), Back(5)]
        self.assertEqual(told(laid(code, -9)), [("jump", 0), ("branch", 3, 3), ("set", 1, 2), ("call", 1991), ("back", 5)])
        self.assertEqual(told(laid(laid(code[:3], 50), -50)), told(code[:3]))

    def test_no_rows(self):
        for by in (0, 5, -5, 3000, -(10 ** 49)):
            self.assertEqual(laid([], by), [])

    def test_rows_without_a_target_are_laid_by_anything(self):
        code = [Set(1, 2), Grow(3), Back(0), Drop(4), Add(1, 2, 3)]
        for by in (5000, -5000, 10 ** 49):
            self.assertEqual(told(laid(code, by)), told(code))

    def test_a_target_outside_is_refused(self):
        for row in (Jump(10), Branch(0, 10), Call(10)):
            for by in (-11, 1991, 10 ** 49, -(10 ** 49)):
                self.refused(NoRow, laid, [row], by)
                self.refused(NoRow, laid, [Set(0, 0), row, Set(0, 0)], by)
            self.assertEqual(laid([row], 1990)[0].told()[-1], 2000)
            self.assertEqual(laid([row], -10)[0].told()[-1], 0)

    def test_the_code_handed_in_stays(self):
        code = [Jump(1), Set(1, 2)]
        for by in (0, 3):
            moved = laid(code, by)
            moved.append(Back(7))
            moved[0] = Back(6)
            self.assertEqual(told(code), [("jump", 1), ("set", 1, 2)])
        self.refused(NoRow, laid, code, 2000)
        self.assertEqual(told(code), [("jump", 1), ("set", 1, 2)])

    def test_by_the_names_of_the_arguments(self):
        self.assertEqual(told(laid(code=[Jump(1)], by=4)), [("jump", 5)])


class Joined(Asks):
    def joins(self, parts, code, entries, landings):
        made = joined(parts)
        self.assertIs(made.__class__, tuple)
        self.assertEqual(len(made), 2)
        self.assertIs(made[0].__class__, list)
        self.assertIsInstance(made[1], Table)
        self.assertEqual(told(made[0]), code)
        self.assertEqual((made[1].entries, made[1].landings), (entries, landings))

    def test_no_parts(self):
        self.joins([], [], [], {})

    def test_one_part(self):
        part = ([Call(1), Back(7)], Table([START, HIGH], {0: 1}))
        self.joins([part], [("call", 1), ("back", 7)], [START, HIGH], {0: 1})

    def test_parts_without_rows(self):
        none = ([], Table([]))
        part = ([Jump(0)], Table([START]))
        self.joins([none], [], [], {})
        self.joins([none, none], [], [], {})
        self.joins([none, part, none, part, none], [("jump", 0), ("jump", 1)], [START, START], {})

    def test_several_parts(self):
        one = ([Call(2), Jump(0), Set(0, 5)], Table([START, None, HIGH], {0: 2}))
        other = ([Branch(6, 1), Call(0)], Table([HIGH, START], {1: 0, 0: 1}))
        self.joins([one, other, one],
                   [("call", 2), ("jump", 0), ("set", 0, 5), ("branch", 6, 4), ("call", 3), ("call", 7), ("jump", 5),
                    ("set", 0, 5)],
                   [START, None, HIGH, HIGH, START, START, None, HIGH],
                   {0: 2, 4: 3, 3: 4, 5: 7})

    def test_a_target_behind_its_part(self):
        self.joins([([Jump(3)], Table([None])), ([Jump(5)], Table([None]))], [("jump", 3), ("jump", 6)], [None, None], {})

    def test_a_landing_beyond_its_part(self):
        one = ([Call(0)], Table([None], {0: 9}))
        self.joins([one, one], [("call", 0), ("call", 1)], [None, None], {0: 9, 1: 10})

    def test_what_is_handed_in_stays_and_what_is_told_is_the_askers_own(self):
        code, table = [Call(0)], Table([START], {0: 0})
        parts = [(code, table), (code, table)]
        first, other = joined(parts), joined(parts)
        first[0].clear()
        first[1].entries.clear()
        first[1].landings.clear()
        self.assertEqual((told(code), table.entries, table.landings), ([("call", 0)], [START], {0: 0}))
        self.assertEqual(parts, [(code, table), (code, table)])
        code.append(Back(7))
        table.entries.append(None)
        table.landings[5] = 5
        parts.clear()
        self.assertEqual(told(other[0]), [("call", 0), ("call", 1)])
        self.assertEqual((other[1].entries, other[1].landings), ([START, START], {0: 0, 1: 1}))

    def test_one_part_is_copied_too(self):
        code, table = [Back(7)], Table([START])
        made = joined([(code, table)])
        made[0].append(Back(6))
        made[1].entries.append(None)
        self.assertEqual((told(code), table.entries), ([("back", 7)], [START]))

    def test_by_the_name_of_the_argument(self):
        self.assertEqual(told(joined(parts=[([Jump(1)], Table([None]))])[0]), [("jump", 1)])


class Bounds(Asks):
    def part(self, rows, row):
        return ([row] * rows, Table([None] * rows))

    def test_2000_rows_and_2001(self):
        row = Set(0, 0)
        for sizes in ([2000], [1, 1999], [1999, 1], [500] * 4, [1] * 2000, [0, 2000, 0]):
            made = joined([self.part(size, row) for size in sizes])
            self.assertEqual((len(made[0]), len(made[1].entries)), (2000, 2000))
        for sizes in ([2001], [1, 2000], [2000, 1], [500] * 4 + [1], [1] * 2001, [0, 2000, 1], [2000, 2000]):
            self.refused(NoTable, joined, [self.part(size, row) for size in sizes])

    def test_too_many_rows_ahead_of_a_target_that_would_be_refused(self):
        parts = [self.part(1000, Jump(0)), self.part(1000, Jump(1999)), self.part(1, Jump(0))]
        self.refused(NoTable, joined, parts)
        self.refused(NoRow, joined, parts[:2])
        self.refused(NoTable, joined, [self.part(1, Jump(0)), self.part(2000, Jump(2000))])

    def test_targets_up_to_2000(self):
        made = joined([self.part(1, Jump(2000)), self.part(1, Jump(1999)), self.part(1, Branch(0, 1998))])
        self.assertEqual(told(made[0]), [("jump", 2000), ("jump", 2000), ("branch", 0, 2000)])
        for row in (Jump(2000), Call(2000), Branch(0, 2000)):
            self.refused(NoRow, joined, [self.part(1, Jump(0)), self.part(1, row)])


class LetBy(unittest.TestCase):
    """What is let by in parts is let by when joined, and does the same at its new place."""

    def parts(self, chance):
        made = []
        for time in range(chance.randrange(1, 5)):
            code, landings = made_functions(chance, chance.randrange(1, 4))
            made.append((code, guess(code, landings)))
        return made

    def state(self, machine, by, home):
        """What a machine tells, rows counted from its part's first row on; the place behind all is HOME for both."""
        def placed(row):
            return "home" if row == home else row - by
        book = [(placed(row), kept, length) for row, kept, length in machine.book()]
        return (placed(machine.at()), book, len(machine.pile()), machine.word())

    def test_joined_parts_are_let_by(self):
        for seed in range(60):
            parts = self.parts(random.Random(seed))
            code, table = joined(parts)
            self.assertEqual(checked(code, table), [])

    def test_a_part_not_let_by_is_not_let_by_when_joined(self):
        wrong = ([Jump(1)], Table([START]))
        right = ([Back(7)], Table([START]))
        self.assertEqual(checked(*joined([right, right])), [])
        self.assertEqual(checked(*joined([right, wrong])), [(1, 2, "row")])

    def test_a_machine_runs_as_the_part_by_itself(self):
        steps = 0
        for seed in range(80):
            chance = random.Random(seed)
            parts = self.parts(chance)
            code, table = joined(parts)
            by = 0
            for part, own in parts:
                values = [chance.choice((0, 1, 2, 3)) for box in range(7)]
                steps += self.run_both((part, own, by), (code, table), values)
                by += len(part)
        self.assertGreater(steps, 2000)

    def run_both(self, one, whole, values):
        """Run the part by itself and within the whole, as long as box 7 isn't reckoned with."""
        part, own, by = one
        alone, within = Machine(part, own, values), Machine(whole[0], whole[1], values, by)
        for time in range(200):
            self.assertEqual(self.state(alone, 0, len(part)), self.state(within, by, len(whole[0])))
            self.assertEqual(callers(whole[1], within.at(), within.boxes(), within.pile()), within.book())
            if alone.word() != "runs" or self.reads_the_link(part[alone.at()].told()):
                return time
            alone.step()
            within.step()
        return 200

    def reads_the_link(self, row):
        """Whether a value that hangs on a row's place may come by this row into a branch or a drop."""
        if row[0] in ("copy", "add", "sub", "mul", "less"):
            return 7 in row[2:]
        return row[0] in ("branch", "drop") and row[1] == 7

    def test_what_a_part_answers_at_each_place(self):
        # The function at row 6 drops box 1; the drop lands at row 3.
        part = [Grow(1), Put(7, 0), Call(6), Get(7, 0), Shrink(1), Back(7), Drop(1)]
        one = (part, guess(part, {2: 3}))
        code, table = joined([one, one, one])
        for start in (0, 7, 14):
            machine = Machine(code, table, [5, 77, 0, 0, 14, 15, 16], start)
            for time in range(7):
                self.assertEqual(machine.word(), "runs")
                machine.step()
            self.assertEqual((machine.word(), machine.at(), machine.pile()), ("ended", 21, []))
            self.assertEqual(machine.boxes(), [77, 77, 0, 0, 14, 15, 16, 21])


if __name__ == "__main__":
    unittest.main()
