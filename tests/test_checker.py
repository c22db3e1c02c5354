"""Points 19, 20 and 2: the complaints of the checker, in their order."""

import random
import unittest

from frameback.checker import checked
from frameback.errors import NoTable
from frameback.guess import guess
from frameback.rows import Add, Copy, Get, Grow, Put, Set, Shrink
from frameback.tables import START, Table
from frameback.ways import Back, Branch, Call, Drop, Jump
from tests.functions import made_functions
from tests.plain import plain_checked
from tests.samples import sample_rows

CELL = [2 ** (8 + cell) for cell in range(4)]

# Rows 0 to 5 are a function that calls the one at row 8; nothing goes to row 6; row 7 has no entry.
CODE = [
    Grow(1), Put(7, 0), Call(8), Get(7, 0), Shrink(1), Back(7),
    Drop(0),
    Drop(0),
    Back(7),
]
PUT_AWAY = (1, CELL[0], (16, 32, 64))
ENTRIES = [
    START, (1, 128, (16, 32, 64)), (1, 128 + CELL[0], (16, 32, 64)), PUT_AWAY, (1, 128 + CELL[0], (16, 32, 64)), START,
    PUT_AWAY,
    None,
    START,
]


def with_row_6(row, entry):
    """The code with another row 6 and its entry."""
    return CODE[:6] + [row] + CODE[7:], ENTRIES[:6] + [entry] + ENTRIES[7:]


class Complaints(unittest.TestCase):
    def tells(self, code, entries, complaints, landings=None):
        table = Table(entries, landings)
        rows = list(code)
        answer = checked(code, table)
        self.assertEqual(answer, complaints)
        self.assertIs(answer.__class__, list)
        self.assertTrue(all(told.__class__ is tuple for told in answer))
        self.assertEqual((table.entries, table.landings), (list(entries), landings or {}))
        self.assertTrue(len(code) == len(rows) and all(one is other for one, other in zip(code, rows)))
        answer.append(1)
        self.assertEqual(checked(code, table), complaints)

    def row_6(self, row, entry, complaints, landings=None):
        code, entries = with_row_6(row, entry)
        self.tells(code, entries, complaints, landings)


class OfTheWhole(Complaints):
    def test_let_by(self):
        self.tells(CODE, ENTRIES, [])
        self.tells(CODE, ENTRIES, [], {2: 3})
        self.tells(CODE, ENTRIES[:6] + [None] + ENTRIES[7:], [])

    def test_code_without_rows(self):
        self.tells([], [], [])

    def test_length(self):
        length = [(-1, -1, "length")]
        self.tells(CODE, ENTRIES[:-1], length)
        self.tells(CODE, ENTRIES + [None], length)
        self.tells(CODE, [], length)
        self.tells([], [START], length)
        self.tells([], [None], length, {0: 5, -1: 3})
        self.tells([Shrink(1)], [None, START], length, {0: 5})

    def test_start(self):
        for entry in (None, (0, 128, (16, 32, 65)), (0, 129, (16, 32, 64)), (0, 128, (17, 32, 64))):
            self.tells(CODE, [entry] + ENTRIES[1:], [(-1, 0, "start")])
        self.tells([Drop(0)], [(0, 1, (2, 4, 8))], [(-1, 0, "start")])
        self.tells([Drop(0)], [(3, 1, (2, 4, 8))], [(-1, 0, "start")])

    def test_start_comes_first(self):
        self.tells([Shrink(1)], [(0, 1, (16, 32, 64))], [(-1, 0, "start"), (0, 0, "height")])
        self.tells([Back(7)], [(0, 0, (16, 32, 64))], [(-1, 0, "start"), (0, 0, "place"), (1, 0, "call")], {1: 0})


class OfARowByItself(Complaints):
    def test_place_by_the_height(self):
        for high in (-1, -10 ** 49, 4001, 10 ** 49):
            self.row_6(Drop(0), (high, 128, (16, 32, 64)), [(6, 6, "place")])
            self.row_6(Drop(0), (high, 1, (2, 4, 8)), [(6, 6, "place")])
        for high in (0, 1, 4000):
            self.row_6(Drop(0), (high, 128, (16, 32, 64)), [])

    def place(self, entry, fine):
        for row in (Drop(0), Jump(7), Shrink(4), Back(7), Call(9)):
            self.row_6(row, entry, [(6, 6, "place")])
        self.row_6(Drop(0), fine, [])

    def test_place_by_each_set(self):
        for high in (0, 1, 3, 4000):
            beyond = 2 ** (8 + high)
            for wrong in (0, beyond, beyond * 2, beyond + 128, 2 ** 9000 + 1):
                within = beyond // 2
                self.place((high, wrong, (16, 32, 64)), (high, within, (16, 32, 64)))
                self.place((high, 128, (wrong, 32, 64)), (high, 128, (within, 32, 64)))
                self.place((high, 128, (16, wrong, 64)), (high, 128, (16, within, 64)))
                self.place((high, 128, (16, 32, wrong)), (high, 128, (16, 32, within)))

    def test_a_set_below_0_is_not_let_by(self):
        for wrong in (-1, -2, -256, -2 ** 5000):
            for entry in ((1, wrong, (16, 32, 64)), (1, 128, (wrong, 32, 64)), (1, 128, (16, wrong, 64)),
                          (1, 128, (16, 32, wrong))):
                for at in range(len(CODE)):
                    table = Table(ENTRIES[:at] + [entry] + ENTRIES[at + 1:])
                    self.assertNotEqual(checked(CODE, table), [], (at, entry))

    def test_the_places_of_one_set_may_be_those_of_another(self):
        self.row_6(Drop(0), (0, 1, (1, 1, 1)), [])
        self.row_6(Drop(0), (1, 511, (511, 511, 511)), [])

    def test_height(self):
        for row, high in ((Shrink(2), 1), (Put(0, 1), 1), (Get(0, 1), 1), (Put(0, 0), 0), (Grow(1), 4000),
                          (Grow(4000), 1), (Shrink(1), 0), (Get(0, 4000), 4000)):
            self.row_6(row, (high, 128, (16, 32, 64)), [(6, 6, "height")])

    def test_place_comes_ahead_of_height_and_back(self):
        self.row_6(Shrink(2), (1, 0, (16, 32, 64)), [(6, 6, "place")])
        self.row_6(Back(7), (1, 1024, (16, 32, 64)), [(6, 6, "place")])

    def test_back(self):
        self.row_6(Back(7), START, [])
        self.row_6(Back(3), (0, 8 + 1, (16 + 4, 32 + 4, 64)), [])
        wrong = [
            (7, (1, 128, (16, 32, 64))), (7, (1, 128 + CELL[0], (16, 32, 64))), (7, (0, 64, (16, 32, 64))),
            (7, (0, 1, (16, 32, 64))), (0, (0, 128, (16, 32, 64))), (7, (0, 128, (1, 32, 64))),
            (7, (0, 128, (16, 1, 64))), (7, (0, 128, (16, 32, 1))), (7, (0, 128, (32, 16, 64))),
            (4, (0, 128, (16, 32, 64))), (7, (4000, 128, (16, 32, 64))),
        ]
        for box, entry in wrong:
            self.row_6(Back(box), entry, [(6, 6, "back")])

    def test_no_more_is_told_of_the_row(self):
        self.row_6(Branch(0, 2000), (-1, 128, (16, 32, 64)), [(6, 6, "place")])
        self.row_6(Call(2000), (1, 128, (16, 32, 0)), [(6, 6, "place")])
        self.row_6(Grow(4000), (1, 128, (16, 32, 64)), [(6, 6, "height")])


class OfTheWaysOn(Complaints):
    def test_row(self):
        self.row_6(Jump(9), PUT_AWAY, [(6, 9, "row")])
        self.row_6(Jump(2000), PUT_AWAY, [(6, 2000, "row")])
        self.tells([Set(0, 1)], [START], [(0, 1, "row")])
        self.tells([Jump(1)], [START], [(0, 1, "row")])
        self.tells([Jump(0)], [START], [])

    def test_none(self):
        self.row_6(Jump(7), PUT_AWAY, [(6, 7, "none")])
        self.row_6(Grow(0), PUT_AWAY, [(6, 7, "none")])

    def test_height(self):
        self.row_6(Jump(0), PUT_AWAY, [(6, 0, "height")])
        self.row_6(Jump(3), (0, 128, (16, 32, 64)), [(6, 3, "height")])
        self.row_6(Jump(3), (2, CELL[0], (16, 32, 64)), [(6, 3, "height")])
        code, entries = list(CODE), list(ENTRIES)
        code[0] = Grow(2)
        self.tells(code, entries, [(0, 1, "height")])
        code[0] = Grow(0)
        self.tells(code, entries, [(0, 1, "height")])

    def test_each_set(self):
        self.row_6(Jump(3), PUT_AWAY, [])
        self.row_6(Jump(3), (1, 511, (511, 511, 511)), [])
        self.row_6(Jump(3), (1, 128, (16, 32, 64)), [(6, 3, "back")])
        self.row_6(Jump(3), (1, CELL[0], (32, 32, 64)), [(6, 3, 4)])
        self.row_6(Jump(3), (1, CELL[0], (16, 64, 64)), [(6, 3, 5)])
        self.row_6(Jump(3), (1, CELL[0], (16, 32, 16)), [(6, 3, 6)])

    def test_the_first_that_is_so(self):
        self.row_6(Jump(3), (1, 1, (1, 1, 1)), [(6, 3, "back")])
        self.row_6(Jump(3), (1, CELL[0], (1, 1, 1)), [(6, 3, 4)])
        self.row_6(Jump(3), (1, CELL[0], (16, 1, 1)), [(6, 3, 5)])
        self.row_6(Jump(3), (2, 1, (1, 1, 1)), [(6, 3, "height")])

    def test_what_the_row_does_not_keep(self):
        ahead = (1, 128 + CELL[0], (16, 32, 64))
        for row, what in ((Set(0, 1), None), (Set(4, 1), 4), (Copy(5, 6), 5), (Copy(5, 5), None), (Get(6, 0), 6),
                          (Put(0, 0), "back"), (Put(7, 0), None), (Call(5), None), (Add(4, 4, 4), 4), (Grow(0), None),
                          (Shrink(0), None), (Set(7, 1), None), (Shrink(1), "height"), (Grow(1), "height")):
            code = [Grow(1), Put(7, 0), row, Drop(0), Drop(0), Back(7)]
            entries = [START, (1, 128, (16, 32, 64)), ahead, PUT_AWAY, None, START]
            self.tells(code, entries, [] if what is None else [(2, 3, what)])

    def test_a_call_keeps_only_boxes_4_5_6_and_cells(self):
        for behind, what in (((1, CELL[0], (16, 32, 64)), None), ((1, 128, (16, 32, 64)), "back"),
                             ((1, CELL[0] + 1, (16, 32, 64)), "back"), ((1, CELL[0], (16 + 1, 32, 64)), 4),
                             ((1, CELL[0], (16, 8, 64)), 5), ((1, CELL[0], (16, 32, 128)), 6)):
            code = [Grow(1), Call(3), Drop(0), Back(7)]
            entries = [START, (1, 255 + CELL[0], (255, 255, 255)), behind, START]
            faults = [(0, 1, "back")] + ([] if what is None else [(1, 2, what)])
            self.tells(code, entries, faults)

    def test_a_branch(self):
        self.row_6(Branch(0, 2000), PUT_AWAY, [(6, 7, "none"), (6, 2000, "row")])
        self.row_6(Branch(0, 0), PUT_AWAY, [(6, 7, "none"), (6, 0, "height")])
        self.row_6(Branch(0, 3), PUT_AWAY, [(6, 7, "none")])
        code, entries = [Drop(0), Branch(0, 0), Drop(0)], [START, (0, 128, (16, 32, 1)), (0, 128, (32, 32, 64))]
        self.tells(code, entries, [(1, 2, 4), (1, 0, 6)])

    def test_a_branch_to_the_row_behind_it_is_told_once(self):
        self.row_6(Branch(0, 7), PUT_AWAY, [(6, 7, "none")])
        self.tells([Branch(0, 1)], [START], [(0, 1, "row")])
        self.tells([Branch(0, 1), Drop(0)], [START, (0, 1, (16, 32, 64))], [(0, 1, "back")])

    def test_back_and_drop_go_nowhere(self):
        self.tells([Drop(0)], [START], [])
        self.tells([Back(7)], [START], [])


class OfCalls(Complaints):
    def call(self, target, entry, complaints):
        self.row_6(Call(target), entry, complaints)

    def test_the_target(self):
        behind = [(6, 7, "none")]
        self.call(8, PUT_AWAY, behind)
        self.call(0, PUT_AWAY, behind)
        self.call(5, PUT_AWAY, behind)
        self.call(9, PUT_AWAY, behind + [(6, 9, "row")])
        self.call(2000, PUT_AWAY, behind + [(6, 2000, "row")])
        self.call(7, PUT_AWAY, behind + [(6, 7, "start")])
        self.call(3, PUT_AWAY, behind + [(6, 3, "start")])
        self.call(6, PUT_AWAY, behind + [(6, 6, "start")])

    def test_the_target_alone(self):
        code = [Grow(1), Put(7, 0), Call(3), Drop(0)]
        self.tells(code, ENTRIES[:4], [(2, 3, "start")])
        self.tells(code[:2] + [Call(4)] + code[3:], ENTRIES[:4], [(2, 4, "row")])
        self.tells(code[:2] + [Call(0)] + code[3:], ENTRIES[:4], [])

    def test_a_target_that_is_nearly_start(self):
        for entry in ((0, 129, (16, 32, 64)), (0, 128, (16, 32, 65)), (1, 128, (16, 32, 64))):
            code = [Grow(1), Put(7, 0), Call(4), Drop(0), Drop(0)]
            self.tells(code, ENTRIES[:4] + [entry], [(2, 4, "start")])

    def test_the_row_behind_that_is_none(self):
        self.tells([Call(0)], [START], [(0, 1, "row")])
        self.tells([Call(1)], [START], [(0, 1, "row"), (0, 1, "row")])


class OfLandings(Complaints):
    def lands(self, landings, complaints):
        self.tells(CODE, ENTRIES, complaints, landings)

    def test_let_by(self):
        self.lands({2: 3}, [])
        self.lands({2: 6}, [])

    def test_call(self):
        for at in (-1, -7, 9, 10, 2000, 10 ** 49, -10 ** 49, 0, 1, 3, 5, 6, 7, 8):
            self.lands({at: 3}, [(at, 3, "call")])
            self.lands({at: -5}, [(at, -5, "call")])

    def test_code_without_rows(self):
        self.tells([], [], [(0, 0, "call")], {0: 0})

    def test_row(self):
        for landing in (-1, -7, 9, 10, 10 ** 49, -10 ** 49):
            self.lands({2: landing}, [(2, landing, "row")])

    def test_none_and_height(self):
        self.lands({2: 7}, [(2, 7, "none")])
        for landing in (0, 5, 8):
            self.lands({2: landing}, [(2, landing, "height")])

    def test_each_set(self):
        self.lands({2: 1}, [(2, 1, "back")])
        self.lands({2: 2}, [(2, 2, "back")])
        for entry, what in (((1, 128, (1, 1, 1)), "back"), ((1, CELL[0], (1, 1, 1)), 4),
                            ((1, CELL[0], (16, 1, 1)), 5), ((1, CELL[0], (16, 32, 1)), 6)):
            self.row_6(Drop(0), entry, [(2, 6, what)], {2: 6})

    def test_of_rows_that_have_no_entry(self):
        code = CODE[:7] + [Call(8)] + CODE[8:]
        for landing in (-1, 0, 7, 8, 9, 2000):
            self.tells(code, ENTRIES, [], {7: landing})

    def test_of_rows_of_which_place_was_told(self):
        for landing in (-1, 0, 7, 8, 9):
            self.row_6(Call(8), (1, 0, (16, 32, 64)), [(6, 6, "place")], {6: landing})
            self.row_6(Call(8), (-1, 128, (16, 32, 64)), [(6, 6, "place")], {6: landing})

    def test_of_rows_of_which_something_was_told_that_are_no_calls(self):
        self.row_6(Shrink(2), PUT_AWAY, [(6, 6, "height"), (6, 3, "call")], {6: 3})
        self.row_6(Back(7), PUT_AWAY, [(6, 6, "back"), (6, 3, "call")], {6: 3})
        self.row_6(Drop(0), (1, 0, (1, 1, 1)), [(6, 6, "place"), (6, 3, "call")], {6: 3})

    def test_of_calls_of_which_something_else_was_told(self):
        told = [(6, 7, "none"), (6, 9, "row")]
        self.row_6(Call(9), PUT_AWAY, told, {6: 3})
        self.row_6(Call(9), PUT_AWAY, told + [(6, 0, "height")], {6: 0})

    def test_by_rising_call_rows_behind_all_rows(self):
        landings = {9: 0, 6: 2000, 2: 7, -3: 1, 0: 0}
        complaints = [(6, 7, "none"), (-3, 1, "call"), (0, 0, "call"), (2, 7, "none"), (6, 2000, "row"), (9, 0, "call")]
        self.row_6(Call(8), PUT_AWAY, complaints, landings)


class Several(Complaints):
    def test_together_in_their_order(self):
        code = [
            Branch(0, 9), Shrink(1), Back(6), Call(7), Jump(0), Set(4, 1), Grow(4000), Call(99), Call(6),
        ]
        entries = [
            (1, 511, (511, 511, 511)), START, START, (0, 128, (16, 32, 256)), (0, 255, (255, 255, 255)), START,
            START, START, None,
        ]
        complaints = [
            (-1, 0, "start"), (0, 1, "height"), (0, 9, "row"), (1, 1, "height"), (2, 2, "back"), (3, 3, "place"),
            (4, 0, "height"), (5, 6, 4), (6, 7, "height"), (7, 8, "none"), (7, 99, "row"),
            (5, 0, "call"), (7, 1, "back"),
        ]
        self.tells(code, entries, complaints, {8: 77, 7: 1, 5: 0, 3: 44})


class AgainstThePlainTelling(unittest.TestCase):
    def alike(self, code, table):
        self.assertEqual(checked(code, table), plain_checked(code, table))

    def changed_entry(self, chance, entry):
        if entry is None:
            return START
        sets = [entry[1], *entry[2]]
        turn = chance.randrange(10)
        if turn == 0:
            return None
        if turn == 1:
            return (chance.choice([-1, 0, 1, 2, 4000, 4001]), *entry[1:])
        which = chance.randrange(4)
        if turn < 6:
            sets[which] ^= 2 ** chance.randrange(8 + max(entry[0], 0) + (turn == 2))
        else:
            sets[which] = chance.choice([1, 16, 128, 256, sets[chance.randrange(4)]])
        return (entry[0], sets[0], tuple(sets[1:]))

    def change(self, chance, code, table):
        """Change a row, an entry or a landing of a code and a table."""
        at = chance.randrange(len(code))
        turn = chance.randrange(4)
        if turn == 0:
            code[at] = chance.choice(sample_rows())
        elif turn == 3:
            table.landings[chance.randrange(-1, len(code) + 2)] = chance.randrange(-1, len(code) + 2)
        else:
            table.entries[at] = self.changed_entry(chance, table.entries[at])

    def test_made_functions_with_changes(self):
        for seed in range(60):
            chance = random.Random(seed)
            code, landings = made_functions(chance, chance.randrange(1, 4))
            table = guess(code, landings)
            self.assertEqual(checked(code, table), [])
            for time in range(8):
                self.change(chance, code, table)
                self.alike(code, table)

    def test_rows_and_entries_by_chance(self):
        chance = random.Random(19)
        rows = sample_rows()
        for time in range(1500):
            many = chance.randrange(1, 9)
            code = [row if row.told()[-1] < 12 else Jump(many - 1) for row in chance.choices(rows, k=many)]
            entries = [chance.choice([None, START, START, PUT_AWAY, (3, 255 + CELL[2], (240, 240, 240 + CELL[0])),
                                      (0, 255, (255, 255, 255)), (1, 511, (511, 511, 511))]) for row in code]
            landings = {chance.randrange(-1, many + 1): chance.randrange(-1, many + 1) for turn in range(2)}
            self.alike(code, Table(entries, landings))

    def test_what_it_lets_by_has_a_guess(self):
        self.assertEqual(checked(CODE, guess(CODE, {2: 3})), [])
        with self.assertRaises(NoTable):
            guess(CODE, {3: 2})


if __name__ == "__main__":
    unittest.main()
