"""Point 3 and the interface: the refusals."""

import unittest

from frameback.errors import (
    Astray, FrameError, NoLine, NoName, NoProgram, NoRow, NoTable, NoText,
)

REFUSALS = [
    (NoRow, ("words",)), (NoTable, ("words",)), (NoText, ("words",)), (NoProgram, ("words",)),
    (NoLine, ("words",)), (NoName, ("abc",)), (Astray, (12,)),
]


class Refusals(unittest.TestCase):
    def test_frame_error_is_a_value_error(self):
        self.assertEqual(FrameError.__bases__, (ValueError,))

    def test_each_stands_straight_under_frame_error(self):
        for kind, handed in REFUSALS:
            self.assertEqual(kind.__bases__, (FrameError,), kind)

    def test_none_stands_under_another(self):
        for kind, handed in REFUSALS:
            under = [other for other, rest in REFUSALS if issubclass(kind, other)]
            self.assertEqual(under, [kind])

    def test_each_is_raised_and_taken_by_name(self):
        for kind, handed in REFUSALS:
            for taken in (kind, FrameError, ValueError):
                with self.assertRaises(taken) as caught:
                    raise kind(*handed)
                self.assertIs(caught.exception.__class__, kind)

    def test_none_is_taken_as_another(self):
        for kind, handed in REFUSALS:
            error = kind(*handed)
            for other, rest in REFUSALS:
                self.assertEqual(isinstance(error, other), kind is other, (kind, other))

    def test_no_name_has_the_word(self):
        for word in ("", "abc", "Abc", "a b", "{name}", "\n"):
            self.assertEqual(NoName(word).name, word)

    def test_astray_has_the_row(self):
        for row in (0, -1, 2000, 4294967295, 10 ** 49):
            self.assertEqual(Astray(row).row, row)


if __name__ == "__main__":
    unittest.main()
