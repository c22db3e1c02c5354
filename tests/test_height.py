"""Points 8 and 9: the height of the piece behind a row."""

import unittest

from frameback.rows import Get, Grow, Put, Shrink
from tests.samples import KINDS, sample_rows

LEAVES = (
    "set", "copy", "add", "sub", "mul", "less", "jump", "branch", "call", "back", "drop",
)


class Height(unittest.TestCase):
    def test_most_rows_leave_it(self):
        for kind, word, tops in KINDS:
            if word in LEAVES:
                for numbers in (tops, [0] * len(tops)):
                    for high in (0, 1, 7, 3999, 4000):
                        self.assertEqual(kind(*numbers).height(high), high, word)

    def test_grow(self):
        self.assertEqual(Grow(0).height(0), 0)
        self.assertEqual(Grow(2).height(0), 2)
        self.assertEqual(Grow(2).height(5), 7)
        self.assertEqual(Grow(0).height(4000), 4000)
        self.assertEqual(Grow(4000).height(0), 4000)
        self.assertEqual(Grow(2).height(3998), 4000)

    def test_grow_above_4000(self):
        for many, high in ((1, 4000), (2, 3999), (4000, 1), (4000, 4000), (2001, 2000)):
            self.assertIsNone(Grow(many).height(high), (many, high))

    def test_shrink(self):
        self.assertEqual(Shrink(0).height(0), 0)
        self.assertEqual(Shrink(3).height(3), 0)
        self.assertEqual(Shrink(3).height(4), 1)
        self.assertEqual(Shrink(3).height(4000), 3997)
        self.assertEqual(Shrink(4000).height(4000), 0)

    def test_shrink_below_many(self):
        for many, high in ((1, 0), (3, 2), (3, 0), (4000, 3999), (4000, 0)):
            self.assertIsNone(Shrink(many).height(high), (many, high))

    def test_put_and_get(self):
        for kind in (Put, Get):
            for cell in (0, 1, 3, 3998, 3999):
                self.assertIsNone(kind(4, cell).height(0))
                self.assertIsNone(kind(4, cell).height(cell))
                self.assertEqual(kind(4, cell).height(cell + 1), cell + 1)
                self.assertEqual(kind(4, cell).height(4000), 4000)
            self.assertIsNone(kind(4, 3).height(2))
            self.assertIsNone(kind(4, 4000).height(3999))
            self.assertIsNone(kind(4, 4000).height(4000))

    def test_asked_again(self):
        for row in sample_rows():
            for high in (0, 3, 4000):
                self.assertEqual(row.height(high), row.height(high))

    def test_the_pile_of_what_is_run_has_the_height(self):
        for row in sample_rows():
            for high in range(6):
                answer = row.runs(5, [0] * 8, [9] * high)
                behind = None if answer is None else len(answer[2])
                if row.told()[0] != "drop":
                    self.assertEqual(row.height(high), behind, (row.told(), high))


if __name__ == "__main__":
    unittest.main()
