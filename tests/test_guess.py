"""Points 22, 2 and 3: the guess, the greatest table with these landings, and when it is refused."""

import random
import time
import unittest

from frameback.checker import checked
from frameback.errors import FrameError, NoTable
from frameback.guess import guess
from frameback.rows import Copy, Get, Grow, Put, Set, Shrink
from frameback.tables import START, Table
from frameback.ways import Back, Branch, Call, Drop, Jump
from tests.functions import made_functions
from tests.plain import four, plain_guess
from tests.samples import KINDS

CELL = [2 ** (8 + cell) for cell in range(4)]
KEPT = (16, 32, 64)


class Guessing(unittest.TestCase):
    def guesses(self, code, entries, landings=None):
        rows = list(code)
        handed = None if landings is None else dict(landings)
        table = guess(code) if landings is None else guess(code, handed)
        self.assertIsInstance(table, Table)
        self.assertEqual(table.entries, entries)
        self.assertEqual(table.landings, landings or {})
        self.assertEqual(checked(code, table), [])
        self.assertEqual(handed, landings)
        self.assertTrue(len(code) == len(rows) and all(one is other for one, other in zip(code, rows)))
        again = guess(code, landings)
        self.assertEqual((again.entries, again.landings), (table.entries, table.landings))

    def refused(self, code, landings=None):
        with self.assertRaises(FrameError) as caught:
            guess(code, landings)
        self.assertIs(caught.exception.__class__, NoTable)


class Greatest(Guessing):
    def test_code_without_rows(self):
        self.guesses([], [])
        self.guesses([], [], {})

    def test_one_row(self):
        for row in (Drop(0), Back(7), Jump(0)):
            self.guesses([row], [START])
        self.guesses([Branch(0, 0), Drop(0)], [START, START])

    def test_entries_at_just_the_rows_to_which_something_may_come(self):
        self.guesses([Jump(2), Set(0, 1), Drop(0), Shrink(1)], [START, None, START, None])
        self.guesses([Jump(3), Drop(0), Back(7), Branch(0, 1), Back(7)], [START, START, None, START, START])
        self.guesses([Drop(0), Call(9), Back(0)], [START, None, None])

    def test_all_places(self):
        code = [Copy(0, 7), Grow(2), Put(7, 0), Put(4, 1), Copy(4, 5), Get(5, 1), Set(7, 1), Drop(0)]
        entries = [
            START, (0, 129, KEPT), (2, 129, KEPT), (2, 129 + CELL[1], KEPT),
            (2, 129 + CELL[1], (16 + CELL[0], 32, 64)), (2, 129 + CELL[1], (CELL[0], 32 + 16, 64)),
            (2, 129 + CELL[1], (32 + CELL[0], 16, 64)), (2, 1 + CELL[1], (32 + CELL[0], 16, 64)),
        ]
        self.guesses(code, entries)

    def test_a_call(self):
        code = [Grow(1), Put(7, 0), Copy(1, 4), Call(7), Get(3, 0), Shrink(1), Back(3), Back(7)]
        entries = [
            START, (1, 128, KEPT), (1, 128 + CELL[0], KEPT), (1, 128 + CELL[0], (18, 32, 64)), (1, CELL[0], KEPT),
            (1, 8 + CELL[0], KEPT), (0, 8, KEPT), START,
        ]
        self.guesses(code, entries)

    def test_two_ways_that_meet(self):
        # On the one way the link lies in boxes 0, 7 and the cell, on the other in boxes 1, 7 and the cell.
        code = [
            Grow(1), Branch(0, 5), Copy(0, 7), Put(0, 0), Jump(8), Copy(1, 7), Put(1, 0), Copy(2, 4), Set(3, 1), Drop(0),
        ]
        entries = [
            START, (1, 128, KEPT), (1, 128, KEPT), (1, 129, KEPT), (1, 129 + CELL[0], KEPT), (1, 128, KEPT),
            (1, 130, KEPT), (1, 130 + CELL[0], KEPT), (1, 128 + CELL[0], KEPT), (1, 128 + CELL[0], KEPT),
        ]
        self.guesses(code, entries)

    def test_a_loop(self):
        # Ahead of the loop the link lies in boxes 0 to 3 too; each turn passes one of them on.
        code = [
            Copy(0, 7), Copy(1, 7), Copy(2, 7), Copy(3, 7),
            Copy(3, 2), Copy(2, 1), Copy(1, 0), Set(0, 5), Branch(6, 4), Drop(0),
        ]
        entries = [START, (0, 129, KEPT), (0, 131, KEPT), (0, 135, KEPT)] + [(0, 128, KEPT)] * 6
        self.guesses(code, entries)

    def test_a_loop_that_keeps_a_copy(self):
        # Box 1 has the value of box 4 ahead of the loop alone, box 0 the link behind it too.
        code = [Copy(0, 7), Copy(1, 4), Copy(0, 0), Set(1, 1), Branch(1, 2), Back(0)]
        self.guesses(code, [START] + [(0, 129, KEPT)] * 5)

    def test_calls_of_itself_and_of_row_0(self):
        code = [Grow(1), Put(7, 0), Call(0), Get(7, 0), Shrink(1), Back(7)]
        entries = [START, (1, 128, KEPT), (1, 128 + CELL[0], KEPT), (1, CELL[0], KEPT), (1, 128 + CELL[0], KEPT), START]
        self.guesses(code, entries)

    def test_a_way_into_a_functions_begin(self):
        # The function at row 5 is called, and gone on to by the one at row 0; the cell is no more there.
        code = [Grow(1), Put(7, 0), Call(5), Get(7, 0), Shrink(1), Copy(0, 7), Drop(0)]
        entries = [
            START, (1, 128, KEPT), (1, 128 + CELL[0], KEPT), (1, CELL[0], KEPT), (1, 128 + CELL[0], KEPT), START,
            (0, 129, KEPT),
        ]
        self.guesses(code, entries)

    def test_landings(self):
        code = [Grow(1), Put(7, 0), Copy(0, 7), Call(6), Get(7, 0), Drop(0), Back(7), Set(4, 1), Drop(0)]
        begin = [START, (1, 128, KEPT), (1, 128 + CELL[0], KEPT), (1, 129 + CELL[0], KEPT), (1, CELL[0], KEPT)]
        entries = begin + [(1, 128 + CELL[0], KEPT), START]
        self.guesses(code, entries + [None, None])
        # Landed there, the value of box 4 would lie nowhere behind row 7.
        self.refused(code, {3: 7})
        code[7] = Copy(4, 4)
        self.guesses(code, entries + [(1, CELL[0], KEPT), (1, CELL[0], KEPT)], {3: 7})
        self.guesses(code, begin + [(1, CELL[0], KEPT), START, None, None], {3: 5})
        self.guesses(code, entries + [None, None], {3: 4})

    def test_a_landing_of_a_call_to_which_nothing_comes(self):
        for landing in (0, 1, 2, 77, -3):
            self.guesses([Drop(0), Call(9)], [START, None], {1: landing})

    def test_what_is_told_is_the_askers_own(self):
        code, landings = [Drop(0), Call(0)], {1: 0}
        table = guess(code, landings)
        landings[0] = 7
        code.clear()
        self.assertEqual((table.entries, table.landings), ([START, None], {1: 0}))
        table.entries.clear()
        table.landings.clear()
        self.assertEqual(guess([Drop(0), Call(0)], {1: 0}).entries, [START, None])
        one, other = guess([]), guess([])
        one.landings[1] = 2
        one.entries.append(None)
        self.assertEqual((other.landings, other.entries), ({}, []))


class Refused(Guessing):
    def test_a_row_that_is_none_would_come_next(self):
        for code in ([Set(0, 1)], [Jump(1)], [Jump(2000)], [Branch(0, 2), Drop(0)], [Grow(1)], [Call(0)],
                     [Grow(1), Put(7, 0), Call(4), Drop(0)], [Jump(1), Branch(0, 0)]):
            self.refused(code)

    def test_heights_part(self):
        self.refused([Grow(1), Jump(0)])
        self.refused([Branch(0, 2), Grow(1), Drop(0)])
        self.refused([Grow(1), Branch(0, 3), Shrink(1), Drop(0)])
        self.refused([Grow(1), Put(7, 0), Call(3), Drop(0)])
        self.refused([Grow(2), Shrink(1), Branch(0, 1), Drop(0)])

    def test_a_row_that_is_not_allowed(self):
        for row in (Shrink(1), Put(0, 0), Get(0, 0)):
            self.refused([row, Drop(0)])
        self.refused([Grow(4000), Grow(1), Drop(0)])
        self.refused([Grow(3), Put(0, 3), Drop(0)])
        self.guesses([Grow(4000), Grow(0), Drop(0)], [START, (4000, 128, KEPT), (4000, 128, KEPT)])

    def test_a_back_that_is_not_let_by(self):
        for box in range(7):
            self.refused([Back(box)])
        self.refused([Set(7, 1), Back(7)])
        self.refused([Grow(1), Back(7)])
        self.refused([Copy(0, 4), Set(4, 1), Back(7)])
        self.refused([Copy(0, 5), Set(5, 1), Back(7)])
        self.refused([Copy(0, 6), Set(6, 1), Back(7)])
        self.guesses([Copy(0, 6), Set(6, 1), Copy(6, 0), Back(7)],
                     [START, (0, 128, (16, 32, 65)), (0, 128, (16, 32, 1)), (0, 128, (16, 32, 65))])

    def test_a_value_that_lies_nowhere(self):
        for box in (4, 5, 6, 7):
            self.refused([Set(box, 1), Drop(0)])
            self.refused([Set(box, 1), Jump(1)])
        self.refused([Call(1), Drop(0)])
        self.refused([Grow(1), Put(4, 0), Call(4), Drop(0), Back(7)])
        # On each way it lies somewhere, but at no place on both.
        self.refused([Copy(0, 4), Copy(1, 5), Branch(2, 6), Copy(1, 4), Set(0, 1), Jump(6), Set(4, 1), Drop(0)])

    def test_a_begin_that_is_not_start(self):
        self.refused([Grow(1), Put(7, 0), Set(7, 5), Shrink(1), Jump(0)])
        self.refused([Copy(0, 7), Set(7, 1), Jump(0)])
        self.refused([Copy(0, 7), Branch(1, 3), Set(7, 1), Grow(1), Put(0, 0), Call(3), Drop(0)])

    def test_landings(self):
        code = [Grow(1), Put(7, 0), Call(4), Drop(0), Back(7)]
        self.guesses(code, guess(code).entries, {2: 3})
        for at in (-1, 0, 1, 3, 4, 5, 2000):
            self.refused(code, {at: 3})
            self.refused(code, {2: 3, at: 3})
        for landing in (-1, 5, 6, 2000, -2, 10 ** 49):
            self.refused(code, {2: landing})
        for landing in (0, 1, 4):
            self.refused(code, {2: landing})
        # The call itself as its own landing: there the link lies in the cell alone.
        self.guesses(code, [START, (1, 128, KEPT), (1, CELL[0], KEPT), (1, CELL[0], KEPT), START], {2: 2})

    def test_code_without_rows(self):
        self.refused([], {0: 0})
        self.refused([], {-1: 0})


class AgainstThePlainTelling(Guessing):
    def alike(self, code, landings):
        expected = plain_guess(code, landings)
        if expected is None:
            self.refused(code, landings)
            return False
        self.guesses(code, expected, landings)
        return True

    def row(self, chance, many):
        """A row by chance, of those that often lead on."""
        kinds = {word: kind for kind, word, tops in KINDS}
        word = chance.choice(["copy", "copy", "put", "put", "get", "get", "set", "jump", "branch", "branch", "branch",
                              "call", "call", "back", "drop", "grow", "shrink"])
        target = chance.randrange(many)
        numbers = {
            "copy": (chance.randrange(8), chance.randrange(4, 8)), "put": (chance.randrange(4, 8), chance.randrange(3)),
            "get": (chance.randrange(8), chance.randrange(3)), "set": (chance.randrange(8), 1), "jump": (target,),
            "branch": (0, target), "call": (chance.choice([0, target]),), "back": (chance.choice([7, 7, 0]),),
            "drop": (0,), "grow": (chance.randrange(2),), "shrink": (chance.randrange(2),),
        }
        return kinds[word](*numbers[word])

    def test_short_code_by_chance(self):
        chance = random.Random(22)
        let_by = 0
        for turn in range(4000):
            many = chance.randrange(1, 8)
            code = [Grow(3)] * (chance.random() < 0.7) + [self.row(chance, many) for at in range(many)]
            code.append(chance.choice([Drop(0), Drop(0), Jump(len(code) - 1), Back(7)]))
            calls = [at for at, row in enumerate(code) if row.told()[0] == "call"]
            landings = {at: chance.randrange(len(code)) for at in calls if chance.random() < 0.3}
            let_by += self.alike(code, landings)
        self.assertGreater(let_by, 500)

    def test_made_functions(self):
        for seed in range(25):
            chance = random.Random(seed)
            code, landings = made_functions(chance, chance.randrange(1, 4))
            self.assertTrue(self.alike(code, landings))


class NoTableIsGreater(Guessing):
    def within(self, table, greatest):
        for entry, most in zip(table.entries, greatest.entries):
            if most is not None:
                self.assertIsNotNone(entry)
                self.assertEqual(entry[0], most[0])
                for ours, theirs in zip(four(entry), four(most)):
                    self.assertEqual(ours & theirs, ours)

    def changed(self, chance, entry):
        sets = list(four(entry))
        for turn in range(chance.randrange(1, 4)):
            sets[chance.randrange(4)] ^= 2 ** chance.randrange(8 + entry[0])
        return (entry[0], sets[0], tuple(sets[1:]))

    def test_tables_that_are_let_by_are_within_it(self):
        let_by = 0
        for seed in range(30):
            chance = random.Random(seed)
            code, landings = made_functions(chance, chance.randrange(1, 4))
            greatest = guess(code, landings)
            table = Table(greatest.entries, landings)
            for turn in range(60):
                at = chance.randrange(len(code))
                before = table.entries[at]
                table.entries[at] = self.changed(chance, before) if before else chance.choice([START, before])
                if checked(code, table) == []:
                    let_by += 1
                    self.within(table, greatest)
                else:
                    table.entries[at] = before
        self.assertGreater(let_by, 100)


class OfManyRows(unittest.TestCase):
    """Code of 2000 rows in fair time; the bound is wide, so that a slow machine keeps to it."""

    def soon(self, code):
        self.assertEqual(len(code), 2000)
        begin = time.monotonic()
        table = guess(code)
        self.assertEqual(checked(code, table), [])
        self.assertLess(time.monotonic() - begin, 60)
        return table

    def filled(self, code):
        return code + [Drop(0)] * (2000 - len(code))

    def test_one_way(self):
        table = self.soon([Grow(1998)] + [Put(7, cell) for cell in range(1998)] + [Drop(0)])
        self.assertEqual(table.entries[-1], (1998, 128 + 256 * (2 ** 1998 - 1), KEPT))

    def test_a_high_piece(self):
        code = [Grow(4000)] + [Put(4 + cell % 4, cell) for cell in range(1997)] + [Branch(0, 1), Drop(0)]
        table = self.soon(code)
        self.assertEqual([places.bit_count() for places in four(table.entries[-1])], [500, 501, 500, 500])

    def test_a_loop_that_loses_one_cell_on_each_turn(self):
        cells = 600
        code = [Grow(cells)] + [Put(7, cell) for cell in range(cells)]
        loop = len(code)
        for cell in range(cells - 1, 0, -1):
            code += [Get(0, cell - 1), Put(0, cell)]
        code += [Set(0, 0), Put(0, 0), Branch(1, loop)]
        table = self.soon(self.filled(code))
        self.assertEqual(table.entries[loop], (cells, 128, KEPT))

    def test_ways_that_part_and_meet(self):
        code = [Grow(400)]
        while len(code) < 1995:
            at = len(code)
            code += [Branch(0, at + 3), Put(7, at // 5), Jump(at + 5), Put(7, at // 5), Put(5, 399)]
        self.soon(self.filled(code))

    def test_jumps_from_the_end_to_the_begin(self):
        code = [Jump(1998)] + [Jump(at - 1) for at in range(1, 2000)]
        code[1] = Drop(0)
        table = self.soon(code)
        self.assertEqual(table.entries, [START] * 1999 + [None])

    def test_many_calls(self):
        code = [Grow(1), Put(7, 0)] + [Call(1999 if at % 2 else 0) for at in range(1994)]
        self.soon(code + [Get(7, 0), Shrink(1), Back(7), Back(7)])


if __name__ == "__main__":
    unittest.main()
