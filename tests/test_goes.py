"""Points 7 and 2: the rows that may come next."""

import unittest

from frameback.ways import Back, Branch, Call, Drop, Jump
from tests.samples import BOXES, KINDS, sample_rows

GOES_ON = ("set", "copy", "add", "sub", "mul", "less", "grow", "shrink", "put", "get", "call")


class Goes(unittest.TestCase):
    def test_the_row_behind_alone(self):
        for kind, word, tops in KINDS:
            if word in GOES_ON:
                for at in (0, 1, 7, 1999):
                    self.assertEqual(kind(*tops).goes(at), [at + 1], word)

    def test_jump(self):
        for target in (0, 5, 6, 2000):
            self.assertEqual(Jump(target).goes(5), [target])

    def test_branch(self):
        self.assertEqual(Branch(3, 9).goes(5), [6, 9])
        self.assertEqual(Branch(3, 0).goes(5), [6, 0])
        self.assertEqual(Branch(0, 2000).goes(1999), [2000, 2000])

    def test_branch_to_the_row_behind_tells_it_twice(self):
        self.assertEqual(Branch(3, 6).goes(5), [6, 6])
        self.assertEqual(Branch(3, 1).goes(0), [1, 1])

    def test_call_goes_on_behind_it(self):
        self.assertEqual(Call(12).goes(5), [6])
        self.assertEqual(Call(5).goes(5), [6])

    def test_back_and_drop(self):
        for box in range(8):
            self.assertEqual(Back(box).goes(5), [])
            self.assertEqual(Drop(box).goes(5), [])

    def test_the_list_told_is_the_askers_own(self):
        for row in sample_rows():
            first = row.goes(5)
            expected = list(first)
            self.assertIs(first.__class__, list)
            first.append(77)
            first[0] = 78
            self.assertEqual(row.goes(5), expected, row.told())

    def test_what_is_run_goes_where_it_is_told(self):
        for row in sample_rows():
            word = row.told()[0]
            answer = row.runs(5, list(BOXES), [20, 21, 22])
            if word not in ("call", "back", "drop"):
                self.assertIn(answer[0], row.goes(5), row.told())


if __name__ == "__main__":
    unittest.main()
