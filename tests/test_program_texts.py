"""Points 35, 30, 2 and 3: programs shown as texts, and read again."""

import random
import unittest

from frameback.errors import FrameError, NoProgram, NoText
from frameback.program_texts import read_program, shown_program
from tests.programs import made_program
from tests.test_talk import NO_STATEMENTS, STATEMENTS, round_a

TOP = 4294967295


def with_lists(part):
    """The program with each YS as a list."""
    if isinstance(part, list):
        return [with_lists(one) for one in part]
    if isinstance(part, tuple) and part and part[0] in ("call", "hand"):
        return part[:-1] + (list(part[-1]),)
    if isinstance(part, tuple):
        return tuple(with_lists(one) for one in part)
    return part


class Texts(unittest.TestCase):
    def refused(self, kind, ask, handed):
        with self.assertRaises(FrameError) as caught:
            ask(handed)
        self.assertIs(caught.exception.__class__, kind, handed)

    def no_text(self, text):
        self.refused(NoText, read_program, text)

    def no_program(self, text):
        self.refused(NoProgram, read_program, text)

    def both(self, program, text):
        """The program is shown so, and the text is read so."""
        before = repr(program)
        self.assertEqual(shown_program(program), text)
        self.assertEqual(repr(program), before)
        self.same(read_program(text), with_lists(program))

    def same(self, one, other):
        self.assertEqual(one, other)
        self.assertEqual(repr(one), repr(other))


class Shown(Texts):
    def test_each_row(self):
        for statement, row in (
                (("set", 0, 5), "set 0 5"), (("set", 5, TOP), "set 5 4294967295"), (("set", 3, 0), "set 3 0"),
                (("copy", 1, 2), "copy 1 2"), (("sum", 1, 2, 3), "sum 1 2 3"), (("minus", 5, 4, 3), "minus 5 4 3"),
                (("product", 0, 0, 0), "product 0 0 0"), (("less", 2, 1, 0), "less 2 1 0"), (("drop", 4), "drop 4"),
                (("give", 5), "give 5"), (("call", 1, 0, []), "call 1 0"), (("call", 5, 1, [4]), "call 5 1 4"),
                (("call", 0, 2, (3, 4)), "call 0 2 3 4"), (("call", 2, 3, [5, 5, 0]), "call 2 3 5 5 0"),
                (("hand", 0, ()), "hand 0"), (("hand", 1, [4]), "hand 1 4"), (("hand", 2, [3, 4]), "hand 2 3 4"),
                (("hand", 3, (5, 5, 0)), "hand 3 5 5 0")):
            self.both([(0, [statement]), (1, []), (2, []), (3, [])], f"fun 0; {row}; fun 1; fun 2; fun 3")
            self.both([(0, [statement, statement]), (1, []), (2, [statement]), (3, [])],
                      f"fun 0; {row}; {row}; fun 1; fun 2; {row}; fun 3")

    def test_functions(self):
        for handed in range(4):
            self.both([(handed, [])], f"fun {handed}")
        self.both([(0, [])] * 8, "; ".join(["fun 0"] * 8))

    def test_if_while_and_try(self):
        one, other = ("set", 0, 1), ("drop", 2)
        self.both([(0, [("if", 3, [], [])])], "fun 0; if 3; else; end")
        self.both([(0, [("if", 3, [one], [])])], "fun 0; if 3; set 0 1; else; end")
        self.both([(0, [("if", 3, [], [other])])], "fun 0; if 3; else; drop 2; end")
        self.both([(0, [("if", 3, [one, other], [other, one]), one])],
                  "fun 0; if 3; set 0 1; drop 2; else; drop 2; set 0 1; end; set 0 1")
        self.both([(0, [("while", 4, [])])], "fun 0; while 4; end")
        self.both([(0, [("while", 4, [one, other]), other])], "fun 0; while 4; set 0 1; drop 2; end; drop 2")
        self.both([(0, [("try", [], 5, [])])], "fun 0; try; landing 5; end")
        self.both([(0, [("try", [one], 5, [])])], "fun 0; try; set 0 1; landing 5; end")
        self.both([(0, [("try", [], 5, [other])])], "fun 0; try; landing 5; drop 2; end")
        self.both([(0, [one, ("try", [one, other], 0, [other, one])])],
                  "fun 0; set 0 1; try; set 0 1; drop 2; landing 0; drop 2; set 0 1; end")

    def test_within_one_another(self):
        inner = ("while", 1, [("if", 2, [("try", [("give", 3)], 4, [])], [])])
        self.both([(0, [inner])], "fun 0; while 1; if 2; try; give 3; landing 4; end; "
                  "else; end; end")
        self.both([(0, [("try", [inner], 5, [("if", 0, [], [])])])],
                  "fun 0; try; while 1; if 2; try; give 3; landing 4; end; else; end; end; landing 5; if 0; else; end; end")

    def test_the_documents_own(self):
        self.both([(1, [("while", 0, [("call", 1, 1, [0])]), ("give", 1)]), (1, [("drop", 0)])],
                  "fun 1; while 0; call 1 1 0; end; give 1; fun 1; drop 0")

    def test_made_programs(self):
        for seed in range(300):
            program = made_program(random.Random(seed))
            text = shown_program(program)
            self.same(read_program(text), with_lists(program))
            self.assertEqual(shown_program(read_program(text)), text)

    def test_each_statement(self):
        for statement in STATEMENTS:
            for program in round_a(statement):
                self.same(read_program(shown_program(program)), with_lists(program))

    def test_what_is_no_program_is_not_shown(self):
        for program in ([], [(4, [])], [(0, [])] * 9, [(0, [("set", 0, 1)] * 81)], [(0, [()])], (), None, [()]):
            self.refused(NoProgram, shown_program, program)
        for statement in NO_STATEMENTS:
            self.refused(NoProgram, shown_program, round_a(statement)[0])

    def test_what_is_told_is_the_askers_own(self):
        text = "fun 1; while 0; call 1 0 0; end"
        first, other = read_program(text), read_program(text)
        first[0][1][0][2][0][3].clear()
        first[0][1][0][2].clear()
        first[0][1].clear()
        first.clear()
        self.assertEqual(other, [(1, [("while", 0, [("call", 1, 0, [0])])])])
        self.assertEqual(read_program(text), other)

    def test_by_the_names_of_the_arguments(self):
        self.assertEqual(read_program(text=shown_program(program=[(0, [])])), [(0, [])])


class NoTexts(Texts):
    def test_what_is_no_text(self):
        for thing in (None, 0, 5, True, [], (), {}, b"fun 0", ["fun 0"], ("fun 0",), [(0, [])]):
            self.no_text(thing)

    def test_other_words(self):
        for row in ("", "x", "Set 0 1", "SET 0 1", "sets 0 1", "set0 1", "add 0 1 2", "0", "0 0 0", "function 0", "begin",
                    "endif", "elseif 0", "do", "call", "jump 0", "set,0,1", "set\t0 1", "set\n0 1", "set 0 1\n"):
            self.no_text(f"fun 0; {row}")
            self.no_text(f"fun 0; set 0 1; {row}; set 0 1")
            self.no_text(f"{row}; fun 0")
        self.no_text("")

    def test_too_few_and_too_many_numbers(self):
        for row in ("fun", "fun 0 0", "set", "set 0", "set 0 0 0", "copy 0", "copy 0 0 0", "sum 0 0", "sum 0 0 0 0",
                    "minus 0 0", "minus 0 0 0 0", "product 0 0", "product 0 0 0 0", "less 0 0", "less 0 0 0 0", "call",
                    "call 0", "hand", "drop", "drop 0 0", "give", "give 0 0"):
            self.no_text(f"fun 0; {row}")
        for text in ("fun", "fun 0 0", "fun 0; if; else; end", "fun 0; if 0 0; else; end", "fun 0; if 0; else 0; end",
                     "fun 0; if 0; else; end 0", "fun 0; while; end", "fun 0; while 0 0; end", "fun 0; while 0; end 0",
                     "fun 0; try 0; landing 0; end", "fun 0; try; landing; end", "fun 0; try; landing 0 0; end",
                     "fun 0; try; landing 0; end 0"):
            self.no_text(text)

    def test_numbers_of_another_form(self):
        for number in ("00", "01", "007", "-1", "+1", "1.0", "x", "0x1", "1_0", " 1", "1 ", "", "42949672950", "00000000000",
                       "\u0661", "\u00b2", "1e3"):
            for row in ("set {} 0", "set 0 {}", "copy {} 0", "sum 0 {} 0", "less 0 0 {}", "drop {}", "give {}", "call {} 0",
                        "call 0 {}", "call 0 0 {}", "hand {}", "hand 0 {}", "hand 0 0 {}"):
                text = "fun 0; " + row.replace("{}", number)
                self.no_text(text)
            self.no_text(f"fun {number}")
            self.no_text(f"fun 0; while {number}; end")
            self.no_text(f"fun 0; if {number}; else; end")
            self.no_text(f"fun 0; try; landing {number}; end")

    def test_blanks_and_semicolons(self):
        good = "fun 0; while 0; set 0 1; end"
        self.assertEqual(len(read_program(good)), 1)
        for text in (good + ";", good + "; ", good + " ", good + "; ;", good + "\n", " " + good, "; " + good, ";" + good,
                     good.replace("; ", ";"), good.replace("; ", " "), good.replace("; ", ";  "),
                     good.replace("; ", " ; "), good.replace("; ", ";; "), good.replace("; ", "; ; "),
                     good.replace(" ", "  "), good.replace("; ", ";\n"), good.replace("; ", "\n"), good.replace("; ", ", "),
                     good.replace("set 0 1", "set 0  1"), good.replace("set 0 1", "set  0 1"), good.replace("0 1", "0 1 "),
                     good.replace("set", " set"), good.replace("0 1;", "0 1 ;"), good.replace("fun 0", "fun  0")):
            self.no_text(text)

    def test_a_row_ahead_of_the_first_fun(self):
        for row in ("set 0 1", "give 0", "end", "else", "landing 0", "try", "while 0; end", "if 0; else; end",
                    "try; landing 0; end", "hand 0", ""):
            self.no_text(f"{row}; fun 0")
            self.no_text(row)

    def test_rows_missing_doubled_or_out_of_their_order(self):
        for rows in ("if 0", "if 0; else", "if 0; end", "else", "end", "landing 0", "else; end", "if 0; else; else; end",
                     "if 0; else; end; end", "if 0; else; landing 0; end", "if 0; landing 0; end", "if 0; end; else",
                     "while 0", "while 0; else; end", "while 0; landing 0; end", "while 0; end; end", "while 0; end; else",
                     "try", "try; end", "try; landing 0", "try; else; end", "try; landing 0; landing 0; end",
                     "try; landing 0; else; end", "try; else; landing 0; end", "try; landing 0; end; end",
                     "try; end; landing 0", "landing 0; try; end", "if 0; try; landing 0; else; end; end",
                     "if 0; try; else; landing 0; end; end", "while 0; if 0; end; else; end", "try; while 0; landing 0; end; end",
                     "if 0; while 0; else; end; end", "try; if 0; else; end", "set 0 1; end", "set 0 1; else"):
            self.no_text(f"fun 0; {rows}")
            self.no_text(f"fun 0; set 0 1; {rows}; set 0 1")
            self.no_text(f"fun 0; {rows}; fun 0")
            self.no_text(f"fun 0; fun 0; {rows}")

    def test_a_fun_within(self):
        for text in ("if 0; fun 0; else; end", "if 0; else; fun 0; end", "while 0; fun 0; end", "try; fun 0; landing 0; end",
                     "try; landing 0; fun 0; end", "while 0; fun 0", "if 0; while 0; end; fun 0; else; end"):
            self.no_text(f"fun 0; {text}")

    def test_8000_signs_and_8001(self):
        # 8 signs a row, and 5 for the first: too many statements for a program, but of the form.
        text = "fun 0" + "; drop 0" * 999
        self.assertEqual(len(text), 7997)
        self.no_program(text)
        longer = text[:-8] + "; set 0 10"
        self.assertEqual(len(longer), 7999)
        self.no_program(longer + "0")
        self.no_text(longer + "00")
        self.no_text("fun 0" + "; drop 0" * 4000)
        self.no_text("x" * 8001)
        # So long, and yet a program, no text can be: numbers have at most ten figures, and statements are at most 80.
        self.assertEqual(len(read_program("fun 0" + "; set 0 4294967295" * 80)[0][1]), 80)

    def nested(self, words, between=""):
        """Rows of these within one another, the first outermost."""
        begins = {"if": "; if 0", "other": "; if 0; else", "while": "; while 0", "try": "; try", "lands": "; try; landing 0"}
        ends = {"if": "; else; end", "other": "; end", "while": "; end", "try": "; landing 0; end", "lands": "; end"}
        return ("fun 0" + "".join(begins[word] for word in words) + between
                + "".join(ends[word] for word in reversed(words)))

    def test_40_and_41_within_one_another(self):
        chance = random.Random(35)
        words = ("if", "other", "while", "try", "lands")
        for word in words:
            self.no_program(self.nested([word] * 40))
            self.no_program(self.nested([word] * 40, "; set 0 1"))
            self.no_text(self.nested([word] * 41))
            self.no_text(self.nested([word] * 41, "; set 0 1"))
            self.no_text(self.nested([word] * 300))
        for turn in range(30):
            chosen = [chance.choice(words) for part in range(41)]
            self.no_program(self.nested(chosen[:40]))
            self.no_program(self.nested(chosen[:40]) + "; while 0; end; fun 0")
            self.no_text(self.nested(chosen))
        self.assertEqual(len(read_program(self.nested(["try", "if", "while", "other"]))), 1)
        self.no_program(self.nested(["try", "if", "while", "other", "if"]))
        # An end short or too many is another form.
        self.no_text(self.nested(["while"] * 40)[:-5])
        self.no_text(self.nested(["while"] * 40) + "; end")


class NoPrograms(Texts):
    def test_of_the_form_but_no_program(self):
        for text in ("fun 4", "fun 4294967295", "fun 9999999999", "; ".join(["fun 0"] * 9), "fun 0; set 6 0",
                     "fun 0; set 0 4294967296", "fun 0; set 0 9999999999", "fun 0; copy 0 6", "fun 0; sum 0 0 6",
                     "fun 0; less 6 0 0", "fun 0; drop 6", "fun 0; give 9999999999", "fun 0; if 6; else; end",
                     "fun 0; while 6; end", "fun 0; try; landing 6; end", "fun 0; call 6 0", "fun 0; call 0 1",
                     "fun 0; call 0 0 0", "fun 1; call 0 0", "fun 1; call 0 0 0 0", "fun 1; call 0 0 6", "fun 0; hand 1",
                     "fun 0; hand 0 0", "fun 1; hand 0", "fun 1; hand 0 6", "fun 0; call 0 0 1 2 3 4 5 6 7",
                     "fun 0" + "; set 0 1" * 81, "fun 0" + "; while 0" * 5 + "; end" * 5):
            self.no_program(text)

    def test_another_form_comes_first(self):
        for text in ("fun 4; set", "fun 9; end", "fun 0; set 6 0; x", "fun 0; drop 6; if 0", "fun 4; fun 00"):
            self.no_text(text)


if __name__ == "__main__":
    unittest.main()
