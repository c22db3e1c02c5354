"""Points 4 to 6 and 2: what a row does when it is run."""

import unittest

from frameback.rows import Add, Copy, Get, Grow, Less, Mul, Put, Set, Shrink, Sub
from frameback.ways import Back, Branch, Call, Drop, Jump
from tests.samples import BOXES, VALUE, sample_rows

PILE = [20, 21, 22]


def with_value(box, value, boxes=BOXES):
    return boxes[:box] + [value] + boxes[box + 1:]


class Fills(unittest.TestCase):
    def fills(self, row, box, value, boxes=BOXES):
        expected = (6, with_value(box, value, boxes), PILE)
        self.assertEqual(row.runs(5, list(boxes), list(PILE)), expected, row.told())

    def test_set(self):
        for box in range(8):
            for number in (0, 1, VALUE):
                self.fills(Set(box, number), box, number)

    def test_copy(self):
        for box in range(8):
            for one in range(8):
                self.fills(Copy(box, one), box, BOXES[one])

    def test_reckoning_in_every_box(self):
        for box in range(8):
            for one in range(8):
                for other in range(8):
                    left, right = BOXES[one], BOXES[other]
                    self.fills(Add(box, one, other), box, left + right)
                    self.fills(Mul(box, one, other), box, left * right)
                    less = left - right if left >= right else left - right + 4294967296
                    self.fills(Sub(box, one, other), box, less)
                    self.fills(Less(box, one, other), box, 1 if left < right else 0)

    def reckons(self, left, right, added, taken, multiplied, less):
        boxes = [1, left, right, 3, 4, 5, 6, 7]
        self.fills(Add(0, 1, 2), 0, added, boxes)
        self.fills(Sub(0, 1, 2), 0, taken, boxes)
        self.fills(Mul(0, 1, 2), 0, multiplied, boxes)
        self.fills(Less(0, 1, 2), 0, less, boxes)

    def test_reckoning_at_the_borders_of_a_value(self):
        self.reckons(0, 0, 0, 0, 0, 0)
        self.reckons(0, 1, 1, 4294967295, 0, 1)
        self.reckons(1, 0, 1, 1, 0, 0)
        self.reckons(4294967295, 0, 4294967295, 4294967295, 0, 0)
        self.reckons(0, 4294967295, 4294967295, 1, 0, 1)
        self.reckons(4294967295, 1, 0, 4294967294, 4294967295, 0)
        self.reckons(1, 4294967295, 0, 2, 4294967295, 1)
        self.reckons(4294967295, 4294967295, 4294967294, 0, 1, 0)
        self.reckons(4294967294, 4294967295, 4294967293, 4294967295, 2, 1)
        self.reckons(65536, 65536, 131072, 0, 0, 0)
        self.reckons(2147483648, 2147483648, 0, 0, 0, 0)
        self.reckons(2147483648, 2147483649, 1, 4294967295, 2147483648, 1)

    def test_boxes_alike(self):
        boxes = [0, 0, 4294967295, 0, 0, 0, 0, 0]
        self.fills(Sub(2, 2, 2), 2, 0, boxes)
        self.fills(Add(2, 2, 2), 2, 4294967294, boxes)
        self.fills(Mul(2, 2, 2), 2, 1, boxes)
        self.fills(Less(2, 2, 2), 2, 0, boxes)
        self.fills(Less(2, 0, 2), 2, 1, boxes)
        self.fills(Sub(2, 0, 2), 2, 1, boxes)
        self.fills(Copy(2, 2), 2, 4294967295, boxes)


class Pile(unittest.TestCase):
    def leaves(self, row, pile, behind):
        self.assertEqual(row.runs(3, list(BOXES), list(pile)), (4, BOXES, behind), row.told())

    def cannot(self, row, pile):
        self.assertIsNone(row.runs(3, list(BOXES), list(pile)), row.told())

    def test_grow(self):
        self.leaves(Grow(0), [], [])
        self.leaves(Grow(0), PILE, PILE)
        self.leaves(Grow(1), [], [0])
        self.leaves(Grow(2), PILE, [20, 21, 22, 0, 0])

    def test_grow_to_4000_cells_and_to_4001(self):
        self.leaves(Grow(4000), [], [0] * 4000)
        self.leaves(Grow(3999), [9], [9] + [0] * 3999)
        self.leaves(Grow(1), [9] * 3999, [9] * 3999 + [0])
        self.leaves(Grow(0), [9] * 4000, [9] * 4000)
        self.cannot(Grow(4000), [9])
        self.cannot(Grow(1), [9] * 4000)
        self.cannot(Grow(2), [9] * 3999)
        self.cannot(Grow(4000), [9] * 4000)

    def test_shrink(self):
        self.leaves(Shrink(0), [], [])
        self.leaves(Shrink(0), PILE, PILE)
        self.leaves(Shrink(1), PILE, [20, 21])
        self.leaves(Shrink(2), PILE, [20])

    def test_shrink_of_all_cells_and_of_one_more(self):
        self.leaves(Shrink(3), PILE, [])
        self.cannot(Shrink(4), PILE)
        self.cannot(Shrink(1), [])
        self.cannot(Shrink(4000), PILE)
        self.leaves(Shrink(4000), [9] * 4000, [])
        self.leaves(Shrink(3999), [8] + [9] * 3999, [8])
        self.cannot(Shrink(4000), [9] * 3999)

    def test_put(self):
        self.leaves(Put(4, 0), PILE, [20, 21, 14])
        self.leaves(Put(0, 1), PILE, [20, 10, 22])
        self.leaves(Put(7, 2), PILE, [17, 21, 22])
        self.leaves(Put(7, 3999), [9] * 4000, [17] + [9] * 3999)

    def test_put_where_there_is_no_such_cell(self):
        self.cannot(Put(4, 3), PILE)
        self.cannot(Put(4, 4), PILE)
        self.cannot(Put(0, 0), [])
        self.cannot(Put(0, 4000), PILE)
        self.cannot(Put(0, 4000), [9] * 4000)

    def gets(self, row, pile, box, value):
        expected = (4, with_value(box, value), pile)
        self.assertEqual(row.runs(3, list(BOXES), list(pile)), expected, row.told())

    def test_get(self):
        self.gets(Get(0, 0), PILE, 0, 22)
        self.gets(Get(4, 1), PILE, 4, 21)
        self.gets(Get(7, 2), PILE, 7, 20)
        self.gets(Get(7, 3999), [8] + [9] * 3999, 7, 8)

    def test_get_where_there_is_no_such_cell(self):
        self.cannot(Get(4, 3), PILE)
        self.cannot(Get(4, 4), PILE)
        self.cannot(Get(0, 0), [])
        self.cannot(Get(0, 4000), PILE)
        self.cannot(Get(0, 4000), [9] * 4000)


class Ways(unittest.TestCase):
    def comes(self, row, following, boxes=BOXES, behind=None, at=5):
        expected = (following, boxes if behind is None else behind, PILE)
        self.assertEqual(row.runs(at, list(boxes), list(PILE)), expected, row.told())

    def test_jump(self):
        for target in (0, 5, 6, 2000):
            self.comes(Jump(target), target)

    def test_branch(self):
        for box in range(8):
            boxes = [0] * 8
            self.comes(Branch(box, 9), 6, boxes)
            for value in (1, 4294967295):
                self.comes(Branch(box, 9), 9, with_value(box, value, boxes))
            others = with_value(box, 0, [1] * 8)
            self.comes(Branch(box, 9), 6, others)
        self.comes(Branch(0, 2000), 2000)
        self.comes(Branch(0, 6), 6)

    def test_call(self):
        self.comes(Call(12), 12, behind=with_value(7, 6))
        self.comes(Call(0), 0, behind=with_value(7, 1), at=0)
        self.comes(Call(2000), 2000, behind=with_value(7, 2000), at=1999)

    def test_back(self):
        for box in range(8):
            self.comes(Back(box), BOXES[box])
        self.comes(Back(3), 4294967295, [0, 0, 0, 4294967295, 0, 0, 0, 0])

    def test_drop_is_never_done(self):
        for box in range(8):
            for pile in ([], PILE, [9] * 4000):
                self.assertIsNone(Drop(box).runs(0, list(BOXES), list(pile)))


class NothingIsChanged(unittest.TestCase):
    def test_what_is_handed_in_stays_and_the_row_answers_again(self):
        for row in sample_rows():
            boxes, pile = list(BOXES), list(PILE)
            told = row.told()
            first = row.runs(5, boxes, pile)
            self.assertEqual((boxes, pile), (BOXES, PILE), told)
            self.assertEqual(row.runs(5, boxes, pile), first, told)
            self.assertEqual(row.told(), told)

    def test_the_lists_told_are_the_askers_own(self):
        for row in sample_rows():
            if row.told()[0] == "drop":
                continue
            boxes, pile = list(BOXES), list(PILE)
            expected = row.runs(5, list(BOXES), list(PILE))
            answer = row.runs(5, boxes, pile)
            for told in answer[1:]:
                self.assertIs(told.__class__, list)
                told.append(99)
                told[0] = 98
            self.assertEqual((boxes, pile), (BOXES, PILE), row.told())
            self.assertEqual(row.runs(5, boxes, pile), expected, row.told())

    def test_what_was_handed_in_may_be_changed_behind_the_call(self):
        for row in sample_rows():
            boxes, pile = list(BOXES), list(PILE)
            answer = row.runs(5, boxes, pile)
            expected = row.runs(5, list(BOXES), list(PILE))
            boxes[:] = [1] * 8
            pile.clear()
            self.assertEqual(answer, expected, row.told())

    def test_what_cannot_be_done_changes_nothing(self):
        for row in (Grow(4000), Shrink(4), Put(1, 3), Get(1, 3), Drop(1)):
            boxes, pile = list(BOXES), list(PILE)
            self.assertIsNone(row.runs(5, boxes, pile))
            self.assertIsNone(row.runs(5, boxes, pile))
            self.assertEqual((boxes, pile), (BOXES, PILE))


if __name__ == "__main__":
    unittest.main()
