"""Point 11: a row told as a tuple, and a row laid by a number."""

import unittest

from frameback.errors import FrameError, NoRow
from frameback.rows import Add, Copy, Get, Grow, Less, Mul, Put, Set, Shrink, Sub
from frameback.ways import Back, Branch, Call, Drop, Jump
from tests.samples import KINDS, TARGET, WITH_TARGET, sample_rows

FAR = 1234567890123456789012345678901234567890


def with_target(target):
    return [Jump(target), Branch(3, target), Call(target)]


class Told(unittest.TestCase):
    def test_each_kind(self):
        self.assertEqual(Set(0, 5).told(), ("set", 0, 5))
        self.assertEqual(Copy(1, 2).told(), ("copy", 1, 2))
        self.assertEqual(Add(1, 2, 3).told(), ("add", 1, 2, 3))
        self.assertEqual(Sub(1, 2, 3).told(), ("sub", 1, 2, 3))
        self.assertEqual(Mul(1, 2, 3).told(), ("mul", 1, 2, 3))
        self.assertEqual(Less(1, 2, 3).told(), ("less", 1, 2, 3))
        self.assertEqual(Grow(2).told(), ("grow", 2))
        self.assertEqual(Shrink(2).told(), ("shrink", 2))
        self.assertEqual(Put(4, 0).told(), ("put", 4, 0))
        self.assertEqual(Get(4, 1).told(), ("get", 4, 1))
        self.assertEqual(Jump(12).told(), ("jump", 12))
        self.assertEqual(Branch(1, 12).told(), ("branch", 1, 12))
        self.assertEqual(Call(12).told(), ("call", 12))
        self.assertEqual(Back(7).told(), ("back", 7))
        self.assertEqual(Drop(3).told(), ("drop", 3))

    def test_it_is_a_tuple_each_time(self):
        for row in sample_rows():
            self.assertIs(row.told().__class__, tuple)
            self.assertEqual(row.told(), row.told())

    def test_it_tells_of_what_the_row_can_be_made_again(self):
        kinds = {word: kind for kind, word, tops in KINDS}
        for row in sample_rows():
            told = row.told()
            again = kinds[told[0]](*told[1:])
            self.assertIs(again.__class__, row.__class__)
            self.assertEqual(again.told(), told)


class Laid(unittest.TestCase):
    def laid(self, row, by, told):
        before = row.told()
        answer = row.laid(by)
        self.assertEqual(answer.told(), told)
        self.assertIs(answer.__class__, row.__class__)
        self.assertEqual(row.told(), before)
        self.assertEqual(row.laid(by).told(), told)

    def refused(self, row, by):
        before = row.told()
        with self.assertRaises(NoRow) as caught:
            row.laid(by)
        self.assertEqual(caught.exception.__class__.__bases__, (FrameError,))
        self.assertEqual(row.told(), before)

    def test_rows_with_a_target(self):
        for by in (0, 1, 30, -1, -12):
            self.laid(Jump(12), by, ("jump", 12 + by))
            self.laid(Branch(5, 12), by, ("branch", 5, 12 + by))
            self.laid(Call(12), by, ("call", 12 + by))

    def test_to_the_targets_0_and_2000(self):
        for row in with_target(12):
            start = row.told()[:-1]
            self.laid(row, -12, (*start, 0))
            self.laid(row, 1988, (*start, 2000))
        for row in with_target(0):
            self.laid(row, 2000, (*row.told()[:-1], 2000))
        for row in with_target(2000):
            self.laid(row, -2000, (*row.told()[:-1], 0))

    def test_one_beyond_each_is_refused(self):
        for row in with_target(12):
            for by in (-13, 1989, FAR, -FAR):
                self.refused(row, by)
        for row in with_target(0):
            self.refused(row, -1)
            self.refused(row, 2001)
        for row in with_target(TARGET):
            self.refused(row, 1)
            self.refused(row, -2001)

    def test_rows_without_a_target_tell_the_same(self):
        for kind, word, tops in KINDS:
            if word not in WITH_TARGET:
                for numbers in (tops, [0] * len(tops)):
                    row = kind(*numbers)
                    for by in (0, 1, -1, 2001, -2001, FAR, -FAR):
                        self.laid(row, by, row.told())

    def test_what_is_laid_does_as_its_new_target_says(self):
        self.assertEqual(Jump(12).laid(3).goes(0), [15])
        self.assertEqual(Branch(5, 12).laid(-3).goes(0), [1, 9])
        self.assertEqual(Call(12).laid(3).runs(0, [0] * 8, []), (15, [0] * 7 + [1], []))
        self.assertEqual(Branch(5, 12).laid(3).runs(0, [0, 0, 0, 0, 0, 1, 0, 0], [])[0], 15)

    def test_laid_there_and_back(self):
        for row in sample_rows():
            self.assertEqual(row.laid(40).laid(-40).told(), row.told())


if __name__ == "__main__":
    unittest.main()
