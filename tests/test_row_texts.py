"""Points 12, 2 and 3: rows and code as texts, read again, and what is refused."""

import unittest

from frameback.errors import FrameError, NoRow, NoText
from frameback.rows import Add, Grow, Put, Row, Set
from frameback.row_texts import read_code, read_row, show_code, show_row
from frameback.ways import Back, Call, Jump
from tests.samples import KINDS, numbers_with, sample_rows

NO_TEXTS = [None, 0, 5, True, ["set 0 5"], ("set 0 5",), b"set 0 5", {"set 0 5": 1}, [], Set(0, 5), 10 ** 49]


def told(code):
    return [row.told() for row in code]


class Refusing(unittest.TestCase):
    def refused(self, kind, ask, handed):
        with self.assertRaises(FrameError) as caught:
            ask(handed)
        self.assertIs(caught.exception.__class__, kind, repr(handed)[:80])


class Shown(unittest.TestCase):
    def test_each_kind(self):
        for row, text in (
            (Set(0, 5), "set 0 5"), (Add(1, 2, 3), "add 1 2 3"), (Grow(2), "grow 2"), (Put(4, 0), "put 4 0"),
            (Call(12), "call 12"), (Back(7), "back 7"), (Set(7, 4294967295), "set 7 4294967295"),
        ):
            self.assertEqual(show_row(row), text)
        for kind, word, tops in KINDS:
            self.assertEqual(show_row(kind(*tops)), " ".join([word, *map(str, tops)]))

    def test_code(self):
        self.assertEqual(show_code([]), "")
        self.assertEqual(show_code([Set(0, 5)]), "set 0 5")
        self.assertEqual(show_code([Set(0, 5), Jump(0)]), "set 0 5\njump 0")
        self.assertEqual(show_code([Grow(0), Grow(0), Back(7)]), "grow 0\ngrow 0\nback 7")

    def test_the_code_handed_in_stays(self):
        code = sample_rows()
        rows = list(code)
        first = show_code(code)
        self.assertEqual(len(code), len(rows))
        self.assertTrue(all(one is other for one, other in zip(code, rows)))
        self.assertEqual(show_code(code), first)


class ReadAgain(unittest.TestCase):
    def again(self, row):
        read = read_row(show_row(row))
        self.assertEqual(read.told(), row.told())
        self.assertIs(read.__class__, row.__class__)
        self.assertIsInstance(read, Row)

    def test_each_kind_at_both_borders(self):
        for kind, word, tops in KINDS:
            self.again(kind(*tops))
            self.again(kind(*[0] * len(tops)))
            for position, top in enumerate(tops):
                for number in (0, 1, top - 1, top):
                    self.again(kind(*numbers_with(tops, position, number)))

    def test_each_kind_with_numbers_that_differ(self):
        for kind, word, tops in KINDS:
            self.again(kind(*[3, 1, 6][:len(tops)]))
        for row in sample_rows():
            self.again(row)

    def test_code(self):
        for code in ([], [Set(0, 5)], [Set(0, 5), Jump(0)], sample_rows(), [Back(7)] * 2000):
            self.assertEqual(told(read_code(show_code(code))), told(code))

    def test_code_of_no_rows_is_the_text_without_signs(self):
        self.assertEqual(read_code(""), [])

    def test_the_list_told_is_the_askers_own(self):
        for text in ("", "set 0 5", "set 0 5\nback 7"):
            first = read_code(text)
            expected = told(first)
            self.assertIs(first.__class__, list)
            first.append(Jump(0))
            first[0] = Grow(1)
            self.assertEqual(told(read_code(text)), expected)

    def test_what_is_read_does_as_the_row(self):
        boxes = [1, 2, 3, 4, 5, 6, 7, 8]
        self.assertEqual(read_row("add 0 1 2").runs(5, boxes, []), Add(0, 1, 2).runs(5, boxes, []))
        self.assertEqual(read_row("branch 0 9").goes(5), [6, 9])


OTHER_FORMS = [
    # another word
    "", "sett 0 5", "SET 0 5", "Set 0 5", "se 0 5", "0 5", "5", "row 0 5", "set0 5", "nop",
    # too few and too many numbers
    "set", "set 0", "set 0 5 1", "add 1 2", "add 1 2 3 4", "grow", "grow 1 2", "back", "back 1 2", "drop",
    "jump", "jump 1 2", "branch 1", "branch 1 2 3", "put 4", "put 4 0 0", "call", "call 1 1", "copy 1", "get 1",
    # a nought ahead, eleven figures
    "set 0 05", "set 00 5", "set 01 5", "grow 00", "grow 0000000001", "set 0 10000000000", "set 0 99999999999",
    "set 0 00000000001", "jump 00000000000", "set 0 123456789012345678901234567890",
    # a sign ahead of a number, and what is no whole number
    "set 0 +5", "set 0 -5", "set 0 -0", "set +0 5", "grow -1", "grow +1", "set 0 5.0", "set 0 0x5", "set 0 1_0",
    "set 0 a", "set a 0", "set 0 5a", "set 0 1e3", "set 0 5,",
    # a blank more
    " set 0 5", "set 0 5 ", "set  0 5", "set 0  5", "  set 0 5", "set 0 5  ", " ", "  ", "grow ", "grow  1",
    # tabs and other signs that part
    "set\t0 5", "set 0\t5", "\tset 0 5", "set 0 5\t", "set 0 5\r", "set\u00a00 5", "set 0 5\x0b", "set 0 5\x00",
    # figures that are no plain ones
    "set 0 \u0665", "set \u0661 5", "set 0 \u00b2", "set 0 \u2460", "set 0 \uff15", "grow \u0967", "set 0 1\u0665",
    "s\u0435t 0 5",
]


class RowsRefused(Refusing):
    def test_other_forms(self):
        for text in OTHER_FORMS:
            self.refused(NoText, read_row, text)

    def test_line_ends(self):
        for text in ("set 0 5\n", "\nset 0 5", "set 0 5\nback 7", "set\n0 5", "set 0\n5", "\n"):
            self.refused(NoText, read_row, text)

    def test_what_is_no_text(self):
        for handed in NO_TEXTS:
            self.refused(NoText, read_row, handed)

    def test_numbers_that_a_row_cannot_be_made_of(self):
        for kind, word, tops in KINDS:
            for position, top in enumerate(tops):
                for number in (top + 1, 9999999999):
                    numbers = [str(part) for part in numbers_with(tops, position, number)]
                    self.refused(NoRow, read_row, " ".join([word, *numbers]))

    def test_the_form_comes_ahead_of_the_numbers(self):
        for text in ("set 8 05", "set 8", "set 8 5 1", "set 8 5 ", "add 8 9 -1", "back 8 ", "back 08"):
            self.refused(NoText, read_row, text)


class CodeRefused(Refusing):
    def test_other_forms(self):
        for text in OTHER_FORMS:
            if text != "":
                self.refused(NoText, read_code, text)
            self.refused(NoText, read_code, "back 7\n" + text)
            self.refused(NoText, read_code, text + "\nback 7")

    def test_line_ends(self):
        for text in ("back 7\n", "\nback 7", "back 7\n\nback 7", "\n", "\n\n", "back 7\r\nback 7", "back 7\rback 7",
                     "back 7 \nback 7", "back 7\n back 7", "back 7\u2028back 7", "back 7\x0bback 7"):
            self.refused(NoText, read_code, text)

    def test_what_is_no_text(self):
        for handed in NO_TEXTS:
            self.refused(NoText, read_code, handed)

    def test_numbers_that_a_row_cannot_be_made_of(self):
        for text in ("back 8", "back 7\nset 8 5", "grow 4001\nback 7", "jump 2001", "set 0 4294967296"):
            self.refused(NoRow, read_code, text)

    def test_the_first_refusal_from_above_comes(self):
        self.refused(NoRow, read_code, "back 8\nback")
        self.refused(NoText, read_code, "back\nback 8")
        self.refused(NoRow, read_code, "back 7\nback 8\nback 07\nback 8")
        self.refused(NoText, read_code, "back 7\nback 07\nback 8\nback 07")
        self.refused(NoRow, read_code, "back 8\n")
        self.refused(NoText, read_code, "\nback 8")

    def test_2000_rows_are_read_and_2001_refused(self):
        self.assertEqual(len(read_code("\n".join(["set 0 5"] * 2000))), 2000)
        self.refused(NoText, read_code, "\n".join(["set 0 5"] * 2001))
        self.refused(NoText, read_code, "\n".join(["set 0 5"] * 4000))

    def test_too_many_rows_come_ahead_of_all(self):
        self.refused(NoText, read_code, "\n".join(["back 8"] + ["set 0 5"] * 2000))
        self.refused(NoText, read_code, "\n".join(["back 8"] * 2001))
        self.refused(NoRow, read_code, "\n".join(["back 8"] + ["set 0 5"] * 1999))
        self.refused(NoRow, read_code, "\n".join(["set 0 5"] * 1999 + ["back 8"]))

    def test_refused_it_answers_again_alike(self):
        for time in range(2):
            self.refused(NoRow, read_code, "back 8")
            self.refused(NoText, read_code, "back")
            self.assertEqual(told(read_code("back 7")), [("back", 7)])


if __name__ == "__main__":
    unittest.main()
