"""Points 23 to 26, 2 and 3: tables pressed into short rows, and read from them."""

import random
import unittest

from frameback.errors import FrameError, NoTable
from frameback.guess import guess
from frameback.pressed import entry_at, press, unpressed
from frameback.tables import START, Table
from tests.functions import made_functions

FAR = 10 ** 49
HIGH = (2, 256, (16, 544, 64))


class Pressed(unittest.TestCase):
    def refused(self, ask, *handed):
        with self.assertRaises(FrameError) as caught:
            ask(*handed)
        self.assertIs(caught.exception.__class__, NoTable, handed)

    def reads(self, rows, entries, landings=None):
        """The rows are read as this table, and each of its entries is told by them."""
        handed = list(rows)
        table = unpressed(handed)
        self.assertIsInstance(table, Table)
        self.assertEqual((table.entries, table.landings), (entries, landings or {}))
        for at, entry in enumerate(entries):
            self.assertEqual(entry_at(handed, at), entry, at)
        for at in (len(entries), len(entries) + 1, 2000, FAR, -1, -len(entries), -FAR):
            if not 0 <= at < len(entries):
                self.refused(entry_at, handed, at)
        self.assertEqual(handed, list(rows))


class Read(Pressed):
    def test_no_rows(self):
        self.reads([], [])

    def test_same_and_none(self):
        self.reads([("same", 1)], [START])
        self.reads([("same", 3)], [START] * 3)
        self.reads([("none", 2)], [None, None])
        self.reads([("none", 1), ("same", 2), ("none", 1), ("same", 1)], [None, START, START, None, START])

    def test_height(self):
        self.reads([("height", 3), ("same", 1)], [(3, 128, (16, 32, 64))])
        self.reads([("height", 3), ("height", 0), ("same", 1)], [START])
        self.reads([("height", FAR), ("same", 1)], [(FAR, 128, (16, 32, 64))])

    def test_place(self):
        self.reads([("place", 0, 5), ("same", 1)], [(0, 5, (16, 32, 64))])
        self.reads([("place", 4, 5), ("same", 1)], [(0, 128, (5, 32, 64))])
        self.reads([("place", 5, 5), ("same", 1)], [(0, 128, (16, 5, 64))])
        self.reads([("place", 6, 5), ("same", 1)], [(0, 128, (16, 32, 5))])
        self.reads([("place", 6, 0), ("same", 1)], [(0, 128, (16, 32, 0))])
        self.reads([("place", 6, 2 ** 4008 - 1), ("same", 1)], [(0, 128, (16, 32, 2 ** 4008 - 1))])

    def test_what_is_known_stays_till_it_is_put_otherwise(self):
        rows = [("same", 1), ("height", 1), ("same", 1), ("place", 0, 256), ("none", 1), ("same", 2)]
        self.reads(rows, [START, (1, 128, (16, 32, 64)), None, (1, 256, (16, 32, 64)), (1, 256, (16, 32, 64))])

    def test_keep_and_again(self):
        rows = [("keep",), ("height", 1), ("keep",), ("height", 2), ("same", 1), ("again",), ("same", 1), ("again",),
                ("same", 1)]
        self.reads(rows, [(2, 128, (16, 32, 64)), (1, 128, (16, 32, 64)), START])
        self.reads([("keep",), ("keep",), ("place", 4, 1), ("again",), ("again",), ("same", 1)], [START])
        self.reads([("height", 4), ("keep",), ("place", 5, 1), ("again",), ("same", 1)], [(4, 128, (16, 32, 64))])

    def test_again_takes_it_from_there(self):
        self.refused(unpressed, [("keep",), ("again",), ("again",)])
        rows = [("keep",), ("height", 1), ("again",), ("height", 2), ("keep",), ("height", 3), ("again",), ("same", 1)]
        self.reads(rows, [(2, 128, (16, 32, 64))])

    def test_what_is_laid_by_and_not_taken_is_no_fault(self):
        self.reads([("keep",), ("same", 1), ("keep",)], [START])

    def test_land(self):
        self.reads([("land", 3, 4)], [], {3: 4})
        self.reads([("land", 0, 0), ("same", 1), ("land", 5, 0), ("land", FAR, FAR)], [START], {0: 0, 5: 0, FAR: FAR})

    def test_2000_entries(self):
        self.assertEqual(unpressed([("same", 2000)]).entries, [START] * 2000)
        self.assertEqual(unpressed([("none", 2000)]).entries, [None] * 2000)
        self.assertEqual(len(unpressed([("same", 1)] * 2000).entries), 2000)
        self.assertEqual(unpressed([("same", 1999), ("none", 1), ("land", 1, 2)]).landings, {1: 2})
        self.assertIsNone(entry_at([("same", 1999), ("none", 1)], 1999))

    def test_what_is_told_is_the_askers_own(self):
        rows = [("same", 2), ("land", 1, 0)]
        first, other = unpressed(rows), unpressed(rows)
        first.entries.clear()
        first.landings.clear()
        rows.clear()
        self.assertEqual((other.entries, other.landings), ([START, START], {1: 0}))


NO_SHORT_ROWS = [
    # no tuples
    ["same", 1], "same", 1, None, True, [], {}, {"same": 1}, ["keep"], "keep",
    # no such word
    (), ("sames", 1), ("Same", 1), ("", 1), (1, 1), (None,), (["same"], 1), (("same",), 1), ({}, 1), (0,), (True,),
    ("start", 0), ("set", 0, 5), ("laid", 1), ("back", 1), ("same ", 1), (b"same", 1),
    # another number of numbers
    ("height",), ("height", 1, 1), ("place",), ("place", 0), ("place", 0, 1, 1), ("keep", 1), ("again", 0), ("same",),
    ("same", 1, 1), ("none",), ("none", 1, 1), ("land",), ("land", 1), ("land", 1, 1, 1), ("height", 1, None),
    # no whole numbers
    ("height", "1"), ("height", None), ("height", True), ("height", False), ("height", 1.0), ("height", (1,)),
    ("height", [1]), ("place", 0, "1"), ("place", "0", 1), ("place", False, 1), ("place", 0, True), ("place", 0, None),
    ("place", 0.0, 1), ("place", 4.0, 1), ("place", 4, 1.0), ("same", True), ("same", "1"), ("same", 1.0),
    ("none", True), ("none", None), ("none", 2.0), ("land", True, 1), ("land", 1, False), ("land", "1", 1),
    ("land", 1, None), ("land", 1.0, 1), ("land", 1, 2.0), ("land", [1], 1), ("place", [0], 1),
    # numbers out of their bounds
    ("height", -1), ("height", -FAR), ("place", 0, -1), ("place", 4, -FAR), ("place", 1, 1), ("place", 3, 1),
    ("place", 7, 1), ("place", -1, 1), ("place", -4, 1), ("place", 8, 1), ("place", FAR, 1), ("same", 0), ("same", -1),
    ("same", -FAR), ("none", 0), ("none", -1), ("land", -1, 1), ("land", 1, -1), ("land", -FAR, 1),
    # more than 2000 entries
    ("same", 2001), ("none", 2001), ("same", FAR), ("none", FAR),
    # nothing laid by
    ("again",),
]


class Refused(Pressed):
    def test_each_by_itself(self):
        for wrong in NO_SHORT_ROWS:
            self.refused(unpressed, [wrong])
            self.refused(entry_at, [wrong], 0)

    def test_behind_others(self):
        for wrong in NO_SHORT_ROWS:
            self.refused(unpressed, [("same", 1), wrong])
            self.refused(unpressed, [("none", 1), wrong, ("same", 1)])
            self.refused(unpressed, [wrong, ("same", 1)])

    def test_several(self):
        for wrong, other in zip(NO_SHORT_ROWS, NO_SHORT_ROWS[7:]):
            self.refused(unpressed, [wrong, other])
            self.refused(entry_at, [wrong, ("same", 1), other], 0)
            self.assertEqual(entry_at([("same", 1), wrong, other], 0), START)

    def test_more_than_2000_entries_in_all(self):
        for word in ("same", "none"):
            self.refused(unpressed, [("same", 2000), (word, 1)])
            self.refused(unpressed, [("none", 1), (word, 2000)])
            self.refused(unpressed, [("none", 1000), ("same", 1000), (word, 1)])
            self.refused(unpressed, [("same", 1)] * 2000 + [(word, 1)])

    def test_a_call_row_told_already(self):
        self.refused(unpressed, [("land", 1, 2), ("land", 1, 2)])
        self.refused(unpressed, [("land", 1, 2), ("land", 1, 3)])
        self.refused(unpressed, [("land", 0, 0), ("same", 1), ("land", 0, 0)])
        self.assertEqual(unpressed([("land", 1, 2), ("land", 2, 2)]).landings, {1: 2, 2: 2})

    def test_the_rows_handed_in_stay(self):
        rows = [("keep",), ("same", 1), ("again",), ("again",)]
        handed = list(rows)
        self.refused(unpressed, handed)
        self.assertEqual(handed, rows)


class OneEntry(Pressed):
    def test_faults_behind_it_are_not_looked_at(self):
        for wrong in NO_SHORT_ROWS:
            rows = [("height", 1), ("same", 2), ("none", 1), wrong]
            self.assertEqual(entry_at(rows, 0), (1, 128, (16, 32, 64)))
            self.assertEqual(entry_at(rows, 1), (1, 128, (16, 32, 64)))
            self.assertIsNone(entry_at(rows, 2))
            self.refused(entry_at, rows, 3)
            self.refused(entry_at, rows + [("same", 1)], 3)

    def test_faults_ahead_of_it(self):
        for wrong in NO_SHORT_ROWS:
            rows = [("same", 1), wrong, ("same", 2)]
            self.assertEqual(entry_at(rows, 0), START)
            self.refused(entry_at, rows, 1)
            self.refused(entry_at, rows, 2)

    def test_the_row_that_tells_it_is_looked_at_whole(self):
        for word in ("same", "none"):
            self.refused(entry_at, [(word, 2001)], 0)
            self.refused(entry_at, [("same", 5), (word, 1996)], 5)
            self.assertEqual(entry_at([("same", 5), (word, 1996)], 4), START)

    def test_landings_on_the_way_are_looked_at(self):
        rows = [("land", 1, 2), ("same", 1), ("land", 1, 2), ("same", 1)]
        self.assertEqual(entry_at(rows, 0), START)
        self.refused(entry_at, rows, 1)

    def test_below_0_and_beyond_the_end(self):
        for rows in ([], [("same", 3)], [("none", 3)], [("same", 2000)]):
            for at in (-1, -2, -3, -FAR, 2000, FAR):
                self.refused(entry_at, rows, at)
        self.refused(entry_at, [("same", 3)], 3)
        self.refused(entry_at, [("same", 3), ("land", 3, 3), ("height", 3)], 3)
        self.assertEqual(entry_at([("same", 3)], 2), START)

    def test_by_the_names_of_the_arguments(self):
        self.assertEqual(entry_at(rows=[("same", 3)], row=2), START)


class Press(Pressed):
    def stretches(self, entries):
        return sum(1 for at, entry in enumerate(entries) if at == 0 or entries[at - 1] != entry)

    def presses(self, entries, landings=None):
        table = Table(entries, landings)
        rows = press(table)
        self.assertIs(rows.__class__, list)
        self.assertTrue(all(row.__class__ is tuple for row in rows))
        self.assertLessEqual(len(rows), 6 * self.stretches(entries) + len(landings or {}))
        again = unpressed(rows)
        self.assertEqual((again.entries, again.landings), (list(entries), landings or {}))
        for at, entry in enumerate(entries[:40]):
            self.assertEqual(entry_at(rows, at), entry)
        self.assertEqual((table.entries, table.landings), (list(entries), landings or {}))
        rows.append(7)
        self.assertEqual(press(table), rows[:-1])

    def test_few_entries(self):
        self.presses([])
        self.presses([START])
        self.presses([None])
        self.presses([START, START, None, None, START])
        self.presses([HIGH])
        self.presses([None, HIGH, None, HIGH, START, HIGH, HIGH])

    def test_each_part_of_an_entry(self):
        others = [(1, 128, (16, 32, 64)), (0, 1, (16, 32, 64)), (0, 128, (1, 32, 64)), (0, 128, (16, 1, 64)),
                  (0, 128, (16, 32, 1)), (9, 1, (2, 4, 8)), (0, 0, (0, 0, 0)), (FAR, 2 ** 4007, (1, 2 ** 4007, 3))]
        for one in others:
            for other in others + [None]:
                self.presses([one, other])
                self.presses([one, one, other, other, one])

    def test_landings(self):
        self.presses([], {0: 0})
        self.presses([START], {5: 7, 1: 2, 3: 0})
        self.presses([START, None], {FAR: 2, 0: FAR})

    def test_equal_tables_are_pressed_alike(self):
        one, other = Table([START, HIGH], {5: 7, 1: 2}), Table([START, HIGH], {1: 2, 5: 7})
        self.assertEqual(press(one), press(other))

    def test_2000_entries(self):
        self.presses([START] * 2000)
        self.presses([None] * 2000)
        self.presses([(at, at + 1, (at + 2, at + 3, at + 4)) for at in range(2000)])
        self.presses([START, None] * 1000, {at: 0 for at in range(2000)})

    def test_tables_of_made_functions(self):
        for seed in range(30):
            chance = random.Random(seed)
            code, landings = made_functions(chance, chance.randrange(1, 4))
            table = guess(code, landings)
            self.presses(table.entries, landings)
            table.entries[chance.randrange(len(code))] = None
            self.presses(table.entries, landings)

    def test_by_chance(self):
        chance = random.Random(25)
        for turn in range(200):
            entries = []
            while len(entries) < 60:
                entry = (chance.randrange(3), chance.randrange(3), tuple(chance.randrange(2) for part in range(3)))
                entries += [chance.choice([None, START, entry, entry])] * chance.randrange(1, 4)
            self.presses(entries, {chance.randrange(90): chance.randrange(90) for part in range(4)})

    def test_what_was_handed_in_may_be_changed_behind_the_call(self):
        table = Table([START, HIGH], {1: 0})
        rows = press(table)
        table.entries.clear()
        table.landings.clear()
        self.assertEqual(unpressed(rows).entries, [START, HIGH])
        self.assertEqual(unpressed(rows).landings, {1: 0})


if __name__ == "__main__":
    unittest.main()
