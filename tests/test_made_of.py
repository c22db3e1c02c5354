"""Points 3 and 5: the fifteen rows, and the numbers that they can be made of."""

import unittest

from frameback.errors import (
    Astray, FrameError, NoLine, NoName, NoProgram, NoRow, NoTable, NoText,
)
from frameback.rows import Row
from tests.samples import BOX, CELLS, KINDS, TARGET, VALUE, numbers_with

OTHERS = (Astray, NoLine, NoName, NoProgram, NoTable, NoText)
FAR = 1234567890123456789012345678901234567890


class Kinds(unittest.TestCase):
    def test_there_are_fifteen_under_row_and_none_under_another(self):
        kinds = [kind for kind, word, tops in KINDS]
        self.assertEqual(len(kinds), 15)
        for kind in kinds:
            self.assertTrue(issubclass(kind, Row), kind)
            self.assertEqual([other for other in kinds if issubclass(kind, other)], [kind])

    def test_each_has_the_six_methods(self):
        for kind, word, tops in KINDS:
            row = kind(*[0] * len(tops))
            for name in ("runs", "goes", "height", "keeps", "told", "laid"):
                self.assertTrue(callable(getattr(row, name)), (kind, name))

    def test_the_names_of_the_numbers(self):
        named = {
            "set": ("box", "number"), "copy": ("box", "one"), "add": ("box", "one", "other"),
            "sub": ("box", "one", "other"), "mul": ("box", "one", "other"),
            "less": ("box", "one", "other"), "grow": ("many",), "shrink": ("many",),
            "put": ("box", "cell"), "get": ("box", "cell"), "jump": ("target",),
            "branch": ("box", "target"), "call": ("target",), "back": ("box",), "drop": ("box",),
        }
        for kind, word, tops in KINDS:
            numbers = dict(zip(named[word], range(1, 4)))
            self.assertEqual(kind(**numbers).told(), (word, *numbers.values()))


class Bounds(unittest.TestCase):
    def refused(self, kind, numbers):
        with self.assertRaises(NoRow) as caught:
            kind(*numbers)
        error = caught.exception
        self.assertIsInstance(error, FrameError)
        self.assertIsInstance(error, ValueError)
        for other in OTHERS:
            self.assertNotIsInstance(error, other)

    def test_the_bounds_are_those_of_the_document(self):
        self.assertEqual((BOX, VALUE, CELLS, TARGET), (7, 4294967295, 4000, 2000))

    def test_made_at_both_borders(self):
        for kind, word, tops in KINDS:
            for position, top in enumerate(tops):
                for number in (0, 1, top - 1, top):
                    numbers = numbers_with(tops, position, number)
                    self.assertEqual(kind(*numbers).told(), (word, *numbers))

    def test_made_of_all_the_greatest(self):
        for kind, word, tops in KINDS:
            self.assertEqual(kind(*tops).told(), (word, *tops))

    def test_refused_beyond_each_border(self):
        for kind, word, tops in KINDS:
            for position, top in enumerate(tops):
                for number in (-1, top + 1, -2, top + 2, -top - 1, FAR, -FAR, 10 ** 49):
                    with self.subTest(kind=word, position=position, number=number):
                        self.refused(kind, numbers_with(tops, position, number))

    def test_refused_where_all_are_beyond(self):
        for kind, word, tops in KINDS:
            self.refused(kind, [top + 1 for top in tops])
            self.refused(kind, [-1 for top in tops])


if __name__ == "__main__":
    unittest.main()
