"""Points 3 and 21: what holds of every run where the checker lets code and table by, whoever wrote them."""

import random
import unittest

from frameback.checker import checked
from frameback.guess import guess
from frameback.machine import Machine
from frameback.reader import callers
from frameback.rows import Add, Get, Grow, Put, Set, Shrink, Sub
from frameback.tables import START, Table
from frameback.ways import Back, Branch, Call, Drop
from tests.functions import MAKE, made_functions
from tests.plain import four

VALUES = (0, 0, 1, 1, 2, 3, 5, 4294967295)


class Promise(unittest.TestCase):
    def setUp(self):
        self.seen = {"call": 0, "back": 0, "landed": 0, "landed farther": 0, "dropped": 0}

    def follow(self, code, table, values, start, steps):
        """Run it, and hold each step against the book and against the piles as they were at the calls."""
        machine = Machine(code, table, values, start)
        piles = [[]]
        for time in range(steps):
            self.assertEqual(callers(table, machine.at(), machine.boxes(), machine.pile()), machine.book())
            if machine.word() != "runs":
                break
            self.assertIsNotNone(table.entries[machine.at()])
            word = code[machine.at()].told()[0]
            if word == "back":
                self.goes_back(machine, piles)
            elif word == "drop":
                self.drops(machine, piles, code, table)
            elif word == "call":
                piles.append(machine.pile())
                machine.step()
                self.seen["call"] += 1
            else:
                machine.step()
        return machine

    def as_at_the_call(self, machine, caller, pile):
        self.assertEqual(tuple(machine.boxes()[4:7]), caller[1])
        self.assertEqual(machine.pile(), pile)
        self.assertEqual(len(pile), caller[2])

    def goes_back(self, machine, piles):
        book = machine.book()
        machine.step()
        self.assertIn(machine.word(), ("runs", "ended"))
        self.assertEqual((machine.at(), machine.book()), (book[0][0], book[1:]))
        self.as_at_the_call(machine, book[0], piles.pop())
        self.seen["back"] += 1

    def drops(self, machine, piles, code, table):
        book, boxes, pile = machine.book(), machine.boxes(), machine.pile()
        value = boxes[code[machine.at()].told()[1]]
        machine.step()
        landing = [at for at, caller in enumerate(book)
                   if caller[0] != len(code) and caller[0] - 1 in table.landings]
        if not landing:
            self.assertEqual((machine.word(), machine.fault()), ("dropped", value))
            self.assertEqual((machine.book(), machine.boxes(), machine.pile()), (book, boxes, pile))
            self.seen["dropped"] += 1
            return
        caller = book[landing[0]]
        many = landing[0] + 1
        self.assertEqual((machine.at(), machine.book()), (table.landings[caller[0] - 1], book[many:]))
        self.as_at_the_call(machine, caller, piles[-many])
        self.assertEqual(machine.boxes()[:4] + machine.boxes()[7:], [value] + boxes[1:4] + boxes[7:])
        piles[-many:] = []
        self.seen["landed" if many == 1 else "landed farther"] += 1

    def runs(self, chance, code, table, turns=4, steps=300):
        starts = [at for at, entry in enumerate(table.entries) if entry == START]
        for turn in range(turns):
            start = 0 if turn % 2 == 0 else chance.choice(starts)
            self.follow(code, table, [chance.choice(VALUES) for box in range(7)], start, steps)


class MadeFunctions(Promise):
    def test_with_the_guess(self):
        for seed in range(150):
            chance = random.Random(seed)
            code, landings = made_functions(chance, chance.randrange(2, 6))
            table = guess(code, landings)
            self.assertEqual(checked(code, table), [])
            self.runs(chance, code, table)
        for what in self.seen:
            self.assertGreater(self.seen[what], 10, what)

    def fewer_places(self, chance, table):
        """A table with some of the sets smaller; perhaps not let by."""
        made = Table(table.entries, table.landings)
        for at in chance.sample(range(len(made.entries)), min(3, len(made.entries))):
            if made.entries[at] is not None:
                sets = [places & ~(2 ** chance.randrange(8 + made.entries[at][0])) for places in four(made.entries[at])]
                made.entries[at] = (made.entries[at][0], sets[0], tuple(sets[1:]))
        return made

    def test_with_smaller_tables(self):
        let_by = 0
        for seed in range(60):
            chance = random.Random(seed)
            code, landings = made_functions(chance, chance.randrange(2, 5))
            table = guess(code, landings)
            for turn in range(12):
                smaller = self.fewer_places(chance, table)
                if checked(code, smaller) == []:
                    table = smaller
                    let_by += 1
            self.runs(chance, code, table)
        self.assertGreater(let_by, 60)

    def other_row(self, chance, row):
        """A row of the same word or another, with one of its numbers changed."""
        told = list(row.told())
        if chance.random() < 0.3:
            return MAKE[chance.choice(["set", "copy", "put", "get"])](chance.randrange(8), chance.randrange(4))
        at = chance.randrange(1, len(told))
        told[at] = max(0, told[at] + chance.choice([-2, -1, 1, 2])) % 8
        return MAKE[told[0]](*told[1:])

    def test_with_rows_changed_that_are_still_let_by(self):
        let_by = 0
        for seed in range(120):
            chance = random.Random(seed)
            code, landings = made_functions(chance, chance.randrange(2, 5))
            table = guess(code, landings)
            for turn in range(30):
                at = chance.randrange(len(code))
                before = code[at]
                code[at] = self.other_row(chance, before)
                if checked(code, table) == []:
                    let_by += 1
                else:
                    code[at] = before
            self.runs(chance, code, table)
        self.assertGreater(let_by, 200)


class ByHand(Promise):
    def test_a_function_that_calls_itself_and_puts_boxes_away_late(self):
        # The sum of the numbers up to that of box 0: nothing is put away where box 0 holds 0.
        code = [
            Branch(0, 2), Back(7),
            Grow(2), Put(7, 0), Put(4, 1), Add(4, 0, 3), Set(1, 1), Sub(0, 0, 1), Call(0),
            Add(0, 0, 4), Get(4, 1), Get(7, 0), Shrink(2), Back(7),
        ]
        table = guess(code)
        for number in (0, 1, 2, 10, 40):
            machine = self.follow(code, table, [number, 9, 9, 0, 14, 15, 16], 0, 2000)
            told = (machine.word(), machine.boxes()[0], machine.boxes()[4:], machine.pile())
            self.assertEqual(told, ("ended", number * (number + 1) // 2, [14, 15, 16, 14], []))

    def test_the_deepest_pile(self):
        code = [Grow(1), Put(7, 0), Call(0), Drop(0)]
        machine = Machine(code, guess(code), [0] * 7)
        for time in range(12001):
            machine.step()
        self.assertEqual((machine.word(), machine.at(), len(machine.pile())), ("fault", 0, 4000))
        book = machine.book()
        self.assertEqual(len(book), 4001)
        self.assertEqual(callers(guess(code), 0, machine.boxes(), machine.pile()), book)

    def test_a_drop_through_many_callers(self):
        # The function at row 6 calls itself till box 0 holds 0, and then drops box 1.
        code = [
            Grow(1), Put(7, 0), Call(6), Get(7, 0), Shrink(1), Back(7),
            Grow(3), Put(7, 0), Put(5, 2), Set(5, 55), Branch(0, 12), Drop(1), Set(2, 1), Sub(0, 0, 2), Add(5, 5, 0),
            Call(6), Drop(2),
        ]
        table = guess(code, {2: 3})
        for number in (0, 1, 5, 30):
            machine = self.follow(code, table, [number, 77, 9, 9, 14, 15, 16], 0, 1000)
            self.assertEqual((machine.word(), machine.boxes()[0], machine.boxes()[4:7]), ("ended", 77, [14, 15, 16]))
            self.assertEqual((machine.pile(), machine.book()), ([], []))
        self.assertEqual(self.seen["landed"] + self.seen["landed farther"], 4)


if __name__ == "__main__":
    unittest.main()
