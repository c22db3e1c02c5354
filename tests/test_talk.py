"""Points 28, 29, 30 and 3: what a program is, and what is none."""

import random
import unittest

from frameback.errors import FrameError, NoProgram
from frameback.runner import run
from frameback.talk import is_program
from tests.programs import made_program

TOP = 4294967295
FAR = 10 ** 49

# In the program round each of these, the functions 0 to 3 are handed as many values as their numbers.
STATEMENTS = [
    ("set", 0, 0), ("set", 5, TOP), ("set", 3, 7),
    ("copy", 0, 5), ("copy", 5, 0), ("copy", 2, 2),
    ("sum", 0, 1, 2), ("sum", 5, 5, 5), ("minus", 3, 4, 5), ("minus", 0, 0, 0), ("product", 5, 0, 3), ("less", 1, 5, 4),
    ("call", 0, 0, []), ("call", 5, 1, [5]), ("call", 1, 2, [0, 5]), ("call", 2, 3, [5, 0, 5]),
    ("call", 0, 0, ()), ("call", 5, 1, (0,)), ("call", 1, 2, (0, 0)), ("call", 2, 3, (5, 4, 3)),
    ("if", 0, [], []), ("if", 5, [("set", 0, 1)], []), ("if", 5, [], [("set", 0, 1)]),
    ("while", 0, []), ("while", 5, [("set", 5, 0), ("give", 5)]),
    ("try", [], 0, []), ("try", [("drop", 0)], 5, [("drop", 5)]),
    ("drop", 0), ("drop", 5), ("give", 0), ("give", 5),
    ("hand", 0, []), ("hand", 1, [5]), ("hand", 2, (3, 3)), ("hand", 3, [0, 1, 2]), ("hand", 3, (5, 5, 5)), ("hand", 0, ()),
]

# Each wrong in one part.
NO_STATEMENTS = [
    # no such word
    (), ("",), ("sets", 0, 0), ("Set", 0, 0), ("set ", 0, 0), ("else",), ("end",), ("fun", 0), ("landing", 0),
    ("add", 0, 1, 2), ("sub", 0, 1, 2), ("mul", 0, 1, 2), ("jump", 0), ("statements",), ("name", 0), (0,), (0, 0, 0),
    ([], 0), ((), 0), (["set"], 0, 0),
    # another number of parts
    ("set",), ("set", 0), ("set", 0, 0, 0), ("copy", 0), ("copy", 0, 1, 2), ("sum", 0, 1), ("sum", 0, 1, 2, 3),
    ("minus", 0, 1), ("minus", 0, 1, 2, 3), ("product",), ("product", 0, 1, 2, 3), ("less", 0, 1), ("less", 0, 1, 2, 3),
    ("call", 0, 0), ("call", 0, 0, [], []), ("call", 0, 1, 0), ("if", 0, []), ("if", 0, [], [], []), ("if",),
    ("while", 0), ("while", 0, [], []), ("try", [], 0), ("try", [], 0, [], []), ("try",), ("drop",), ("drop", 0, 0),
    ("give",), ("give", 0, 0), ("hand", 0), ("hand", 0, [], []), ("hand",),
    # names out of range
    ("set", 6, 0), ("set", -1, 0), ("set", FAR, 0), ("copy", 6, 0), ("copy", 0, 6), ("copy", -1, 0), ("copy", 0, -1),
    ("sum", 6, 0, 0), ("sum", 0, 6, 0), ("sum", 0, 0, 6), ("sum", -1, 0, 0), ("sum", 0, -1, 0), ("sum", 0, 0, -1),
    ("minus", 6, 0, 0), ("minus", 0, 6, 0), ("minus", 0, 0, 6), ("product", 6, 0, 0), ("product", 0, -1, 0),
    ("product", 0, 0, 6), ("less", 6, 0, 0), ("less", 0, 6, 0), ("less", 0, 0, -1), ("call", 6, 0, []),
    ("call", -1, 0, []), ("if", 6, [], []), ("if", -1, [], []), ("while", 6, []), ("while", -1, []), ("try", [], 6, []),
    ("try", [], -1, []), ("drop", 6), ("drop", -1), ("give", 6), ("give", -1), ("give", 7), ("drop", 7), ("copy", 0, 7),
    # values out of range
    ("set", 0, -1), ("set", 0, TOP + 1), ("set", 0, FAR), ("set", 0, -FAR),
    # functions out of range
    ("call", 0, 4, []), ("call", 0, -1, []), ("call", 0, -4, []), ("call", 0, -1, [0, 0, 0]), ("call", 0, FAR, []),
    ("hand", 4, []), ("hand", -1, []), ("hand", -4, []), ("hand", -1, [0, 0, 0]), ("hand", 8, []),
    # another number of names
    ("call", 0, 0, [0]), ("call", 0, 1, []), ("call", 0, 1, [0, 0]), ("call", 0, 2, [0]), ("call", 0, 2, (0, 0, 0)),
    ("call", 0, 3, [0, 0]), ("call", 0, 3, (0, 0, 0, 0)), ("hand", 0, [0]), ("hand", 1, ()), ("hand", 2, [1]),
    ("hand", 3, [1, 2]), ("hand", 3, [1, 2, 3, 4]),
    # names within YS out of range
    ("call", 0, 1, [6]), ("call", 0, 1, [-1]), ("call", 0, 2, [6, 0]), ("call", 0, 2, (0, 6)), ("call", 0, 3, [0, 0, -1]),
    ("hand", 1, [6]), ("hand", 1, (-1,)), ("hand", 2, [0, FAR]), ("hand", 3, (0, 6, 0)),
    # other kinds where a number, a text or a list is told
    ("set", "0", 0), ("set", 0, "0"), ("set", [], 0), ("set", 0, []), ("copy", (), 0), ("call", 0, "0", []),
    ("call", 0, 0, 0), ("call", 0, 0, ""), ("call", 0, 1, [[]]), ("call", 0, 1, ["0"]), ("hand", [], []), ("if", [], 0, []),
    ("if", 0, 0, 0), ("if", 0, (), []), ("while", 0, 0), ("while", [], 0), ("try", 0, [], []), ("try", 0, 0, []),
    ["set", 0, 0], "set", 0, [],
]


def round_a(statement):
    """Programs with the statement at several places."""
    rest = [(1, []), (2, []), (3, [])]
    return [
        [(0, [statement])] + rest,
        [(0, [("set", 0, 1), statement, ("set", 0, 1)])] + rest,
        [(0, [("if", 0, [statement], [])])] + rest,
        [(0, [("if", 0, [], [("set", 0, 0), statement])])] + rest,
        [(0, [("while", 0, [statement])])] + rest,
        [(0, [("try", [statement], 0, [])])] + rest,
        [(0, [("try", [], 0, [statement])])] + rest,
        [(0, [])] + rest[:2] + [(3, [statement])],
    ]


class Asks(unittest.TestCase):
    def is_one(self, program):
        self.assertIs(is_program(program), True, program)
        self.assertIsInstance(run(program, [0] * program[0][0], 0), tuple)

    def is_none(self, program):
        self.assertIs(is_program(program), False, program)
        for values in ([], [0], [0, 0], [0, 0, 0]):
            with self.assertRaises(FrameError) as caught:
                run(program, values, 5)
            self.assertIs(caught.exception.__class__, NoProgram)


class Statements(Asks):
    def test_each_statement(self):
        for statement in STATEMENTS:
            for program in round_a(statement):
                self.is_one(program)

    def test_each_part_wrong_by_itself(self):
        for statement in NO_STATEMENTS:
            for program in round_a(statement):
                self.is_none(program)

    def test_truths_are_no_numbers(self):
        for statement in (("set", True, 0), ("set", 0, True), ("copy", 0, False), ("call", 0, True, [0]),
                          ("call", 0, 1, [True]), ("hand", False, []), ("try", [], True, [])):
            self.is_none(round_a(statement)[0])

    def test_the_functions_number_is_below_their_number(self):
        for many in range(1, 9):
            self.is_one([(0, [("call", 0, many - 1, [])])] + [(0, [])] * (many - 1))
            self.is_one([(0, [("hand", many - 1, [])])] + [(0, [])] * (many - 1))
            self.is_none([(0, [("call", 0, many, [])])] + [(0, [])] * (many - 1))
            self.is_none([(0, [("hand", many, [])])] + [(0, [])] * (many - 1))

    def test_the_names_are_as_many_as_that_function_is_handed(self):
        for handed in range(4):
            for names in range(5):
                for kind in (list, tuple):
                    for statement in (("call", 0, 1, kind([0] * names)), ("hand", 1, kind([5] * names))):
                        program = [(0, [statement]), (handed, [])]
                        (self.is_one if handed == names else self.is_none)(program)


class Functions(Asks):
    def test_the_smallest(self):
        self.is_one([(0, [])])

    def test_handed(self):
        for handed in range(4):
            self.is_one([(handed, [])])
        for handed in (-1, 4, 5, FAR, -FAR, True, "0", [], ()):
            self.is_none([(handed, [])])
            self.is_none([(0, []), (handed, [])])

    def test_none_to_nine(self):
        self.is_none([])
        for many in range(1, 9):
            self.is_one([(0, [])] * many)
        for many in (9, 10, 4000):
            self.is_none([(0, [])] * many)

    def test_another_number_of_parts(self):
        for function in ((), (0,), (0, [], []), ([],), ([], 0), (0, 0), (0, ()), (0, "")):
            self.is_none([function])
            self.is_none([(0, []), function])

    def test_other_kinds(self):
        for program in ((), ((0, []),), "", "fun 0", 0, None, True, (0, []), [[0, []]], [0], [""], [[]], {}):
            self.is_none(program)


class Bounds(Asks):
    def test_80_statements_and_81(self):
        one = ("set", 0, 1)
        for wrap in (lambda some: some,
                     lambda some: [("if", 0, some[:-1], [])],
                     lambda some: [("if", 0, [], some[:-1])],
                     lambda some: [("if", 0, some[:30], some[30:-1])],
                     lambda some: [("while", 0, some[:-1])],
                     lambda some: [("try", some[:-1], 0, [])],
                     lambda some: [("try", [], 0, some[:-1])],
                     lambda some: [("try", [("while", 0, some[:-3])], 0, [("while", 0, [])])]):
            self.is_one([(0, wrap([one] * 80))])
            self.is_none([(0, wrap([one] * 81))])
            self.is_one([(0, []), (0, wrap([one] * 80))])
            self.is_none([(0, [one]), (0, wrap([one] * 80))])
            self.is_none([(0, wrap([one] * 80)), (0, [("drop", 0)])])

    def test_in_all_functions_together(self):
        self.is_one([(0, [("set", 0, 1)] * 10)] * 8)
        self.is_none([(0, [("set", 0, 1)] * 10)] * 7 + [(0, [("set", 0, 1)] * 11)])

    def test_very_many(self):
        self.is_none([(0, [("set", 0, 1)] * 4000)] * 8)
        some = [("set", 0, 1)] * 4000
        for time in range(3):
            some = [("if", 0, some, some)] * 4000
        self.is_none([(0, some)])

    def within(self, words, inner):
        """The inner statements within these, the first outermost."""
        for word in reversed(words):
            inner = {
                "if": [("if", 0, inner, [])], "other": [("if", 0, [], inner)], "while": [("while", 0, inner)],
                "try": [("try", inner, 0, [])], "landing": [("try", [], 0, inner)],
            }[word]
        return inner

    def test_4_and_5_within_one_another(self):
        chance = random.Random(30)
        words = ("if", "other", "while", "try", "landing")
        for word in words:
            self.is_one([(0, self.within([word] * 4, [("set", 0, 1)]))])
            self.is_none([(0, self.within([word] * 5, [("set", 0, 1)]))])
            self.is_none([(0, self.within([word] * 5, []))])
            self.is_none([(0, self.within([word] * 40, []))])
        for time in range(40):
            chosen = [chance.choice(words) for part in range(5)]
            self.is_one([(0, []), (0, self.within(chosen[:4], [("set", 0, 1)]))])
            self.is_none([(0, []), (0, self.within(chosen, []))])
            self.is_none([(0, self.within(chosen[:4], [("set", 0, 1)]) + self.within(chosen, []))])

    def test_beside_one_another_is_not_within(self):
        four = self.within(["try"] * 4, [])
        self.is_one([(0, four * 20)])
        self.is_one([(0, [("if", 0, four[0][1], four[0][1])])])

    def test_far_too_deep(self):
        self.is_none([(0, self.within(["if"] * 3000, []))])

    def test_the_same_list_at_several_places(self):
        some = [("set", 0, 1)]
        self.is_one([(0, some), (0, some), (0, [("if", 0, some, some)])])


class Made(Asks):
    def test_made_programs(self):
        for seed in range(200):
            self.is_one(made_program(random.Random(seed)))

    def test_nothing_is_changed(self):
        for seed in range(50):
            program = made_program(random.Random(seed))
            before = repr(program)
            is_program(program)
            self.assertEqual(repr(program), before)

    def test_by_the_name_of_the_argument(self):
        self.assertIs(is_program(program=[(0, [])]), True)


if __name__ == "__main__":
    unittest.main()
