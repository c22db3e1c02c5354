"""Points 8 and 10: what a row keeps of a set of places."""

import random
import unittest

from frameback.rows import Add, Copy, Get, Grow, Less, Mul, Put, Set, Shrink, Sub
from frameback.ways import Back, Branch, Call, Drop, Jump

# Far from every other value in these tests, also from a sum or a product of them.
MARK = 3000000001


def places(boxes, cells=()):
    """The set of these boxes and of these cells of the piece, counted from below."""
    return sum([2 ** box for box in boxes]) + sum([2 ** (8 + cell) for cell in cells])


def members(bits):
    return [bit for bit in range(bits.bit_length()) if bits >> bit & 1]


class Keeps(unittest.TestCase):
    def keeps(self, row, ahead, behind, high=3):
        self.assertEqual(row.keeps(ahead, high), behind, (row.told(), ahead, high))

    def test_rows_that_fill_a_box_anew(self):
        for row in (Set(4, 7), Add(4, 4, 4), Sub(4, 5, 6), Mul(4, 1, 4), Less(4, 2, 3)):
            self.keeps(row, places([4]), 0)
            self.keeps(row, places([4, 5], [1]), places([5], [1]))
            self.keeps(row, places([5, 7], [0, 2]), places([5, 7], [0, 2]))
            self.keeps(row, places(range(8), range(3)), places([0, 1, 2, 3, 5, 6, 7], range(3)))
            self.keeps(row, 0, 0)
            self.keeps(row, 0, 0, 0)

    def test_each_box_is_its_own_place(self):
        for box in range(8):
            rest = [other for other in range(8) if other != box]
            for row in (Set(box, 1), Add(box, 0, 0), Sub(box, 0, 0), Mul(box, 0, 0), Less(box, 0, 0)):
                self.keeps(row, places(range(8)), places(rest))

    def test_copy(self):
        self.keeps(Copy(4, 1), places([1]), places([1, 4]))
        self.keeps(Copy(4, 1), places([1, 4], [0]), places([1, 4], [0]))
        self.keeps(Copy(4, 1), places([4, 6], [0]), places([6], [0]))
        self.keeps(Copy(4, 1), places([4]), 0)
        self.keeps(Copy(4, 1), places([6]), places([6]))
        self.keeps(Copy(4, 1), 0, 0)

    def test_copy_of_a_box_into_itself_keeps_all(self):
        for box in range(8):
            for bits in (0, 1, 4, 128, 251, 255, places([2], [0, 2]), places([], [1])):
                self.keeps(Copy(box, box), bits, bits)

    def test_get(self):
        # Of a piece three high, cell 0 of the pile is the cell 2 of the piece.
        self.keeps(Get(4, 0), places([], [2]), places([4], [2]))
        self.keeps(Get(4, 1), places([], [1]), places([4], [1]))
        self.keeps(Get(4, 2), places([], [0]), places([4], [0]))
        self.keeps(Get(4, 0), places([4], [0, 1]), places([], [0, 1]))
        self.keeps(Get(4, 0), places([4, 5], [2]), places([4, 5], [2]))
        self.keeps(Get(4, 2), places([4, 7], [1, 2]), places([7], [1, 2]))
        self.keeps(Get(4, 0), places([3]), places([3]))
        self.keeps(Get(4, 0), places([], [0]), places([4], [0]), 1)
        self.keeps(Get(0, 3999), places([], [0]), places([0], [0]), 4000)
        self.keeps(Get(0, 0), places([], [3999]), places([0], [3999]), 4000)

    def test_put(self):
        self.keeps(Put(4, 0), places([4]), places([4], [2]))
        self.keeps(Put(4, 1), places([4]), places([4], [1]))
        self.keeps(Put(4, 2), places([4]), places([4], [0]))
        self.keeps(Put(4, 0), places([5], [1, 2]), places([5], [1]))
        self.keeps(Put(4, 0), places([4], [2]), places([4], [2]))
        self.keeps(Put(4, 2), places([], [0]), 0)
        self.keeps(Put(4, 2), places([], [1]), places([], [1]))
        self.keeps(Put(4, 0), places([4]), places([4], [0]), 1)
        self.keeps(Put(0, 3999), places([0]), places([0], [0]), 4000)
        self.keeps(Put(0, 0), places([0]), places([0], [3999]), 4000)

    def test_shrink(self):
        self.keeps(Shrink(0), places([1], [0, 1, 2]), places([1], [0, 1, 2]))
        self.keeps(Shrink(1), places([1], [0, 1, 2]), places([1], [0, 1]))
        self.keeps(Shrink(2), places([1], [0, 1, 2]), places([1], [0]))
        self.keeps(Shrink(3), places([1], [0, 1, 2]), places([1]))
        self.keeps(Shrink(2), places([], [1, 2]), 0)
        self.keeps(Shrink(2), places([0, 7]), places([0, 7]))
        self.keeps(Shrink(0), places([0, 7]), places([0, 7]), 0)
        self.keeps(Shrink(4000), places(range(8), range(4000)), 255, 4000)
        self.keeps(Shrink(1), places([], [3998, 3999]), places([], [3998]), 4000)

    def test_call(self):
        self.keeps(Call(9), places(range(8), [0, 2]), places([4, 5, 6], [0, 2]))
        self.keeps(Call(9), places([0, 1, 2, 3, 7]), 0)
        self.keeps(Call(9), places([4, 6], [1]), places([4, 6], [1]))
        self.keeps(Call(9), places([7], [0, 1, 2]), places([], [0, 1, 2]))
        self.keeps(Call(9), places([0], [3999]), places([], [3999]), 4000)

    def test_all_others_keep_the_set(self):
        for row in (Grow(0), Grow(2), Jump(1), Branch(4, 1), Back(7), Back(4), Drop(0), Drop(4)):
            for bits in (0, 1, 128, 255, places([4], [0, 2]), places(range(8), range(3))):
                self.keeps(row, bits, bits)

    def test_asked_again(self):
        for row in (Set(4, 7), Copy(1, 2), Get(3, 0), Put(3, 0), Shrink(1), Call(3), Grow(1)):
            bits = places([2, 3, 4], [0, 2])
            self.assertEqual(row.keeps(bits, 3), row.keeps(bits, 3))


class ValuesLieThere(unittest.TestCase):
    """A value that lies at each place ahead of the row lies at each kept place behind it."""

    def rows(self, high):
        boxes = range(8)
        made = [Set(box, 5) for box in boxes]
        made += [Copy(box, one) for box in boxes for one in boxes]
        for kind in (Add, Sub, Mul, Less):
            made += [kind(box, one, other) for box in boxes for one in (0, box) for other in (1, box)]
        made += [Grow(many) for many in range(3)] + [Shrink(many) for many in range(high + 1)]
        made += [kind(box, cell) for kind in (Put, Get) for box in boxes for cell in range(high)]
        return made + [Jump(3), Branch(0, 3), Branch(7, 3), Call(3), Back(7), Back(2)]

    def marked(self, bits, high, below):
        """Boxes and a pile with the mark at just the places of the set."""
        boxes = [MARK if bits >> box & 1 else 100 + box for box in range(8)]
        piece = [MARK if bits >> (8 + cell) & 1 else 200 + cell for cell in range(high)]
        return boxes, [300] * below + piece

    def lies(self, row, bits, high, below):
        boxes, pile = self.marked(bits, high, below)
        coming, boxes, pile = row.runs(5, boxes, pile)
        if row.told()[0] == "call":
            boxes = [1, 2, 3, 4] + boxes[4:7] + [8]
        piece = pile[below:]
        behind = row.height(high)
        self.assertEqual(len(piece), behind)
        kept = row.keeps(bits, high)
        there = [box for box in range(8) if boxes[box] == MARK]
        there += [8 + cell for cell in range(behind) if piece[cell] == MARK]
        self.assertEqual(members(kept), there, (row.told(), bits, high))

    def test_the_mark_lies_at_just_the_kept_places(self):
        chance = random.Random(10)
        for high in (0, 1, 3):
            for row in self.rows(high):
                whole = 2 ** (8 + high)
                for bits in [0, whole - 1] + [chance.randrange(whole) for time in range(12)]:
                    for below in (0, 2):
                        self.lies(row, bits, high, below)

    def test_the_mark_lies_at_just_the_kept_places_of_a_high_piece(self):
        chance = random.Random(11)
        for row in (Set(4, 1), Copy(4, 7), Put(4, 3999), Put(4, 0), Get(4, 3999), Get(4, 0),
                    Shrink(4000), Shrink(3999), Shrink(1), Grow(0), Call(1), Add(1, 1, 2)):
            for bits in [2 ** 4008 - 1] + [chance.randrange(2 ** 4008) for time in range(3)]:
                self.lies(row, bits, 4000, 0)


if __name__ == "__main__":
    unittest.main()
