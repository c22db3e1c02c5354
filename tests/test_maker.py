"""Points 30, 32, 33, 2 and 3: what is made of a program, its rows, its piece, its table, its landings and its homes."""

import random
import unittest

from frameback.checker import checked
from frameback.errors import FrameError, NoProgram
from frameback.guess import guess
from frameback.maker import made
from frameback.tables import START, Table
from tests.programs import count, made_program, parts_within
from tests.test_talk import NO_STATEMENTS, STATEMENTS, round_a

NO_HOME = (None, None, None)


def made_homes(chance, program):
    """Homes by chance: all kinds, from no name in a box to three."""
    share = chance.choice((0.0, 0.5, 1.0))
    return [tuple(name if chance.random() < share else None for name in chance.sample(range(6), 3))
            for function in program]


def calls(statements, in_some=False):
    """How many calls stand in no SOME of a try, and how many in one: hands too, where they stand in one."""
    found = [0, 0]
    for statement in statements:
        if statement[0] == "call" or statement[0] == "hand" and in_some:
            found[in_some] += 1
        inner = [(part, in_some) for part in parts_within(statement)]
        if statement[0] == "try":
            inner = [(statement[1], True), (statement[3], in_some)]
        for part, within in inner:
            more = calls(part, within)
            found = [found[0] + more[0], found[1] + more[1]]
    return found


class Makes(unittest.TestCase):
    def makes(self, program, homes=None):
        """What is made of the program, held against all that point 33 tells of its form."""
        before = repr((program, homes))
        told = made(program) if homes is None else made(program, homes)
        self.assertEqual(repr((program, homes)), before)
        self.assertIs(told.__class__, tuple)
        code, table = told
        self.assertIs(code.__class__, list)
        self.assertIsInstance(table, Table)
        self.assertLessEqual(len(code), 2000)
        self.assertEqual(checked(code, table), [])
        self.assertLessEqual(max(entry[0] for entry in table.entries if entry is not None), 12)
        self.assertEqual(table.entries[0], START)
        self.has_landings(program, code, table.landings)
        self.assertEqual(checked(code, guess(code, table.landings)), [])
        return code, table

    def has_landings(self, program, code, landings):
        """Just the calls in the SOME of some try have one."""
        outside, inside = [sum(counts) for counts in zip(*[calls(body) for handed, body in program])]
        rows = [at for at, row in enumerate(code) if row.told()[0] == "call"]
        self.assertEqual(len(rows), outside + inside)
        self.assertEqual(len(landings), inside)
        for call in landings:
            self.assertIn(call, rows)
            self.assertIn(landings[call], range(len(code)))

    def refused(self, *handed):
        with self.assertRaises(FrameError) as caught:
            made(*handed)
        self.assertIs(caught.exception.__class__, NoProgram, handed)


class Form(Makes):
    def test_the_smallest(self):
        self.makes([(0, [])])
        self.makes([(3, [])] * 8)

    def test_each_statement(self):
        for statement in STATEMENTS:
            for program in round_a(statement):
                self.makes(program)
                self.makes(program, [(0, 1, 2), (None, 0, None), (5, 4, 3), (2, None, 0)])

    def test_made_programs(self):
        for seed in range(250):
            chance = random.Random(seed)
            program = made_program(chance)
            self.makes(program)
            self.makes(program, made_homes(chance, program))

    def test_what_is_made_again_is_equal(self):
        for seed in range(20):
            program = made_program(random.Random(seed))
            first, other = made(program), made(program)
            self.assertEqual([row.told() for row in first[0]], [row.told() for row in other[0]])
            self.assertEqual((first[1].entries, first[1].landings), (other[1].entries, other[1].landings))
            first[0].clear()
            first[1].entries.clear()
            first[1].landings.clear()
            self.assertEqual(len(other[0]), len(other[1].entries))
            self.assertGreater(len(made(program)[0]), 0)

    def test_the_longest(self):
        wide = [(0, 1, 2), (5, 4, 3), (2, 1, 0)]
        longest = 0
        for word in (("hand", 0, [0, 1, 2]), ("call", 5, 0, [3, 4, 5]), ("sum", 0, 1, 2), ("sum", 5, 4, 3), ("drop", 0),
                     ("give", 5), ("if", 0, [], []), ("while", 5, []), ("try", [], 0, []), ("set", 5, 4294967295)):
            for many in (1, 8):
                program = [(3, [word] * (80 // many))] * many
                for home in wide + [NO_HOME]:
                    longest = max(longest, len(self.makes(program, [home] * many)[0]))
            within = ("try", [("try", [("while", 0, [("if", 5, [word] * 36, [word] * 36)])], 0, [word] * 4)], 3, [])
            program = [(3, [within])]
            if count(program[0][1]) == 80 and word[0] not in ("if", "while", "try"):
                for home in wide + [NO_HOME]:
                    longest = max(longest, len(self.makes(program, [home])[0]))
        self.assertGreater(longest, 700)

    def test_80_statements_made_by_chance(self):
        for seed in range(60):
            chance = random.Random(seed)
            program = made_program(chance, chance.choice((1, 8)), 80)
            self.makes(program, made_homes(chance, program))


class Landings(Makes):
    def landings(self, program):
        return self.makes(program)[1].landings

    def test_calls_in_no_some(self):
        self.assertEqual(self.landings([(0, [("call", 0, 0, [])])]), {})
        self.assertEqual(self.landings([(0, [("try", [], 0, [("call", 0, 0, [])]), ("call", 0, 0, [])])]), {})
        self.assertEqual(self.landings([(0, [("hand", 0, [])])]), {})
        self.assertEqual(self.landings([(0, [("try", [], 0, [("hand", 0, [])])])]), {})

    def test_calls_and_hands_in_some(self):
        for inner in (("call", 0, 0, []), ("hand", 0, [])):
            for some in ([inner], [("if", 0, [inner], [])], [("while", 0, [inner])], [("try", [], 1, [inner])],
                         [("try", [("drop", 0)], 1, [inner])]):
                self.assertEqual(len(self.landings([(0, [("try", some, 0, [])])])), 1)
            self.assertEqual(len(self.landings([(0, [("try", [inner], 0, [("try", [inner, inner], 0, [inner])])])])), 3)

    def test_calls_to_which_nothing_comes(self):
        program = [(0, [("give", 0), ("try", [("call", 0, 0, []), ("drop", 0), ("call", 0, 1, [])], 0, [])]),
                   (0, [("try", [("call", 0, 0, [])], 0, [])])]
        self.makes(program)


class Homes(Makes):
    PROGRAM = [(3, [("sum", 0, 1, 2), ("call", 3, 1, [0]), ("give", 3)]), (1, [("give", 0)])]

    def test_each_box_with_each_name(self):
        for box in range(3):
            for name in (None, 0, 1, 2, 3, 4, 5):
                home = [None, None, None]
                home[box] = name
                self.makes(self.PROGRAM, [tuple(home), NO_HOME])
                self.makes(self.PROGRAM, [NO_HOME, tuple(home)])
                self.makes(self.PROGRAM, [tuple(home), tuple(home)])

    def test_left_out(self):
        told = [made(self.PROGRAM), made(self.PROGRAM, None), made(self.PROGRAM, [NO_HOME, NO_HOME])]
        texts = [[row.told() for row in code] for code, table in told]
        self.assertEqual(texts[0], texts[1])
        self.assertEqual(texts[0], texts[2])

    def test_left_out_no_name_lives_in_a_box(self):
        for seed in range(20):
            program = made_program(random.Random(seed))
            for row in made(program)[0]:
                told = row.told()
                if told[0] in ("set", "copy", "add", "sub", "mul", "less", "get"):
                    self.assertNotIn(told[1], (4, 5, 6))

    def test_a_name_at_home_in_a_box(self):
        program = [(0, [("set", 0, 1234), ("set", 1, 5678), ("set", 2, 9012)])]
        told = [row.told() for row in made(program, [(2, 0, 1)])[0]]
        for row in (("set", 4, 9012), ("set", 5, 1234), ("set", 6, 5678)):
            self.assertIn(row, told)
        self.assertEqual([row for row in told if row[0] == "put" and row[1] < 4], [])

    def test_another_number_of_homes(self):
        for homes in ([], [NO_HOME], [NO_HOME] * 3, [NO_HOME] * 8):
            self.refused(self.PROGRAM, homes)
            self.refused([(0, [])] * 4, homes[:3])

    def test_a_home_of_another_form(self):
        for home in ((), (None,), (None, None), (None,) * 4, (0, 1), (0, 1, 2, 3), [None, None, None], [0, 1, 2], None, 0,
                     "012", (6, None, None), (None, 6, None), (None, None, 6), (-1, None, None), (None, None, -1),
                     (0, 1, 10 ** 49), (0, 0, None), (0, None, 0), (None, 5, 5), (3, 3, 3), ("0", None, None),
                     (True, None, None), (False, None, None), ([], None, None), ((), None, None), (0, 1, "")):
            self.refused(self.PROGRAM, [home, NO_HOME])
            self.refused(self.PROGRAM, [NO_HOME, home])
            self.refused([(0, [])], [home])

    def test_what_is_no_list_of_homes(self):
        for homes in ((NO_HOME, NO_HOME), NO_HOME, (), "", 0, {}, False, ((0, 1, 2), NO_HOME)):
            self.refused(self.PROGRAM, homes)

    def test_what_is_no_program(self):
        for program in ([], [(4, [])], [(0, [])] * 9, [(0, [("set", 0, 1)] * 81)], [(0, [()])], (), None, [()]):
            self.refused(program)
            self.refused(program, [])
            self.refused(program, [NO_HOME])
        for statement in NO_STATEMENTS:
            self.refused(round_a(statement)[0])

    def test_by_the_names_of_the_arguments(self):
        self.assertEqual(len(made(program=[(0, [])], homes=[(0, 1, 2)])), 2)


if __name__ == "__main__":
    unittest.main()
