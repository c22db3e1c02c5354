"""Points 28, 29, 31 and 2: each statement run, but for try and drop."""

import random
import unittest

from frameback.errors import FrameError, NoProgram
from frameback.runner import run
from tests.plain_runner import plain_run_and_steps
from tests.programs import made_program, made_values

TOP = 4294967295


class Runs(unittest.TestCase):
    def gives(self, program, values, value, steps=100):
        self.assertEqual(run(program, values, steps), ("gave", value))


class Plain(Runs):
    def test_a_body_that_comes_to_its_end(self):
        self.gives([(0, [])], [], 0)
        self.gives([(3, [])], [7, 8, 9], 0)
        self.gives([(1, [("set", 0, 5), ("copy", 1, 0)])], [7], 0)
        self.gives([(1, [("if", 0, [("set", 0, 5)], [])])], [7], 0)

    def test_what_the_names_hold_at_the_begin(self):
        for name, value in enumerate([7, 8, 9, 0, 0, 0]):
            self.gives([(3, [("give", name)])], [7, 8, 9], value)
        for name, value in enumerate([7, 0, 0, 0, 0, 0]):
            self.gives([(1, [("give", name)])], [7], value)
        for name in range(6):
            self.gives([(0, [("give", name)])], [], 0)

    def test_set_and_copy(self):
        for value in (0, 1, TOP):
            self.gives([(0, [("set", 4, value), ("give", 4)])], [], value)
            self.gives([(1, [("copy", 5, 0), ("give", 5)])], [value], value)
            self.gives([(1, [("copy", 0, 0), ("give", 0)])], [value], value)
        self.gives([(2, [("copy", 0, 1), ("give", 1)])], [3, 4], 4)

    def test_reckoning(self):
        for word, one, other, value in (
                ("sum", 2, 3, 5), ("sum", TOP, 1, 0), ("sum", TOP, TOP, TOP - 1), ("sum", 0, 0, 0), ("sum", TOP, 0, TOP),
                ("minus", 5, 3, 2), ("minus", 3, 5, TOP - 1), ("minus", 0, 1, TOP), ("minus", 0, TOP, 1),
                ("minus", TOP, TOP, 0), ("product", 6, 7, 42), ("product", TOP, TOP, 1), ("product", 65536, 65536, 0),
                ("product", TOP, 2, TOP - 1), ("product", 0, TOP, 0), ("product", 65537, 65537, 131073),
                ("less", 1, 2, 1), ("less", 2, 2, 0), ("less", 3, 2, 0), ("less", 0, TOP, 1), ("less", TOP, 0, 0)):
            self.gives([(2, [(word, 5, 0, 1), ("give", 5)])], [one, other], value)
            self.gives([(2, [(word, 0, 0, 1), ("give", 0)])], [one, other], value)
            self.gives([(2, [(word, 1, 0, 1), ("give", 1)])], [one, other], value)
            self.gives([(2, [(word, 1, 0, 1), ("give", 0)])], [one, other], one)

    def test_a_name_with_itself(self):
        self.gives([(1, [("sum", 0, 0, 0), ("give", 0)])], [TOP], TOP - 1)
        self.gives([(1, [("minus", 0, 0, 0), ("give", 0)])], [7], 0)
        self.gives([(1, [("product", 0, 0, 0), ("give", 0)])], [9], 81)
        self.gives([(1, [("less", 0, 0, 0), ("give", 0)])], [9], 0)

    def test_give_in_the_midst(self):
        rest = [("set", 0, 99), ("give", 0)]
        self.gives([(1, [("give", 0)] + rest)], [7], 7)
        self.gives([(1, [("if", 0, [("while", 0, [("try", [("give", 0)] + rest, 1, rest)] + rest)] + rest, rest)] + rest)],
                   [7], 7)
        self.gives([(1, [("try", [("set", 1, 3), ("drop", 1)], 2, [("give", 2)] + rest)] + rest)], [7], 3)


class Ways(Runs):
    def test_if(self):
        program = [(1, [("if", 0, [("set", 1, 10)], [("set", 1, 20)]), ("give", 1)])]
        self.gives(program, [0], 20)
        for value in (1, 2, TOP):
            self.gives(program, [value], 10)

    def test_if_without_statements(self):
        for value, one, other in ((0, 5, 20), (1, 10, 5)):
            self.gives([(1, [("set", 1, 5), ("if", 0, [("set", 1, 10)], []), ("give", 1)])], [value], one)
            self.gives([(1, [("set", 1, 5), ("if", 0, [], [("set", 1, 20)]), ("give", 1)])], [value], other)
            self.gives([(1, [("if", 0, [], []), ("give", 0)])], [value], value)

    def test_if_tests_once(self):
        self.gives([(1, [("if", 0, [("set", 0, 0), ("set", 1, 4)], [("set", 1, 5)]), ("give", 1)])], [1], 4)

    def test_while(self):
        # Name 1 gets the sum of the numbers up to that of name 0.
        program = [(1, [("set", 2, 1), ("while", 0, [("sum", 1, 1, 0), ("minus", 0, 0, 2)]), ("give", 1)])]
        for value in (0, 1, 2, 10):
            self.gives(program, [value], value * (value + 1) // 2)

    def test_while_without_statements(self):
        self.gives([(1, [("while", 0, []), ("set", 1, 6), ("give", 1)])], [0], 6)
        self.assertEqual(run([(1, [("while", 0, [])])], [1], 20000), ("tired",))

    def test_while_tests_ahead_of_each_turn(self):
        self.gives([(1, [("while", 0, [("copy", 0, 1), ("set", 2, 5)]), ("give", 2)])], [3], 5)

    def test_within_one_another(self):
        inner = ("while", 1, [("if", 2, [("sum", 3, 3, 2)], [("sum", 3, 3, 5)]), ("minus", 1, 1, 5), ("minus", 2, 2, 2)])
        program = [(2, [("set", 5, 1), ("while", 0, [("copy", 1, 0), ("set", 2, 7), inner, ("minus", 0, 0, 5)]),
                        ("give", 3)])]
        # Each round of the outer while adds 7 once, and 1 for each number below the outer one.
        self.gives(program, [4, 0], 4 * 7 + 3 + 2 + 1 + 0, 1000)


class Calls(Runs):
    def test_none_to_three_values(self):
        for kind in (list, tuple):
            self.gives([(0, [("call", 1, 1, kind([])), ("give", 1)]), (0, [("set", 0, 9), ("give", 0)])], [], 9)
            self.gives([(1, [("call", 1, 1, kind([0])), ("give", 1)]), (1, [("give", 0)])], [9], 9)
            self.gives([(2, [("call", 5, 1, kind([1, 0])), ("give", 5)]), (2, [("minus", 0, 0, 1), ("give", 0)])], [2, 9], 7)
            for name, value in enumerate((30, 10, 20, 0)):
                self.gives([(3, [("call", 5, 1, kind([2, 0, 1])), ("give", 5)]), (3, [("give", name)])], [10, 20, 30], value)

    def test_the_same_name_several_times(self):
        self.gives([(1, [("call", 0, 1, [0, 0, 0]), ("give", 0)]), (3, [("sum", 0, 0, 1), ("sum", 0, 0, 2), ("give", 0)])],
                   [5], 15)

    def test_each_function_has_its_own_names(self):
        other = (1, [("set", 0, 50), ("set", 1, 51), ("set", 2, 52), ("set", 5, 55), ("give", 3)])
        for name, value in enumerate((7, 8, 9, 0, 0, 0)):
            self.gives([(3, [("call", 4, 1, [0]), ("give", name)]), other], [7, 8, 9], value)

    def test_the_names_begin_anew_at_each_call(self):
        program = [(0, [("call", 1, 1, []), ("call", 1, 1, []), ("give", 1)]),
                   (0, [("set", 4, 1), ("sum", 3, 3, 4), ("give", 3)])]
        self.gives(program, [], 1)

    def test_a_called_function_that_comes_to_its_end_gives_0(self):
        self.gives([(1, [("call", 0, 1, []), ("give", 0)]), (0, [("set", 0, 4)])], [7], 0)

    def test_a_function_that_calls_itself(self):
        # The product of the numbers up to that of name 0.
        program = [(1, [("set", 1, 1), ("if", 0, [], [("give", 1)]), ("minus", 2, 0, 1), ("call", 3, 0, [2]),
                        ("product", 3, 3, 0), ("give", 3)])]
        for value, product in ((0, 1), (1, 1), (5, 120), (12, 479001600), (13, 1932053504)):
            self.gives(program, [value], product, 200)

    def test_hand(self):
        program = [(2, [("hand", 1, [1, 0]), ("set", 0, 99), ("give", 0)]), (2, [("minus", 5, 0, 1), ("give", 5)])]
        self.gives(program, [3, 10], 7)
        self.gives([(0, [("hand", 1, ())]), (0, [])], [], 0)
        self.gives([(3, [("hand", 1, (2, 1, 0))]), (3, [("product", 0, 0, 2), ("sum", 0, 0, 1), ("give", 0)])],
                   [4, 5, 6], 29)

    def test_hand_gives_to_the_call_of_its_function(self):
        program = [(1, [("call", 5, 1, [0]), ("sum", 5, 5, 0), ("give", 5)]),
                   (1, [("while", 0, [("hand", 2, [0])]), ("give", 0)]), (1, [("sum", 0, 0, 0), ("give", 0)])]
        self.gives(program, [10], 30)
        self.gives(program, [0], 0)

    def test_hand_to_itself(self):
        # Counts name 0 down and name 1 up.
        program = [(2, [("set", 5, 1), ("if", 0, [], [("give", 1)]), ("minus", 0, 0, 5), ("sum", 1, 1, 5),
                        ("hand", 0, [0, 1])])]
        self.gives(program, [1000, 7], 1007, 20000)

    def test_the_names_begin_anew_at_a_hand(self):
        program = [(1, [("set", 1, 1), ("set", 4, 4), ("if", 0, [("set", 2, 0), ("hand", 0, [2])], []), ("give", 3)])]
        self.gives(program, [1], 0)
        program = [(1, [("if", 0, [("set", 4, 4), ("set", 2, 0), ("hand", 0, [2])], []), ("give", 4)])]
        self.gives(program, [1], 0)


class Handed(Runs):
    def test_another_number_of_values_is_refused(self):
        for handed in range(4):
            for many in range(6):
                program = [(handed, [("give", 0)]), (2, [])]
                if many == handed:
                    self.gives(program, [7] * many, 7 if handed else 0)
                    continue
                for steps in (0, 100):
                    with self.assertRaises(FrameError) as caught:
                        run(program, [7] * many, steps)
                    self.assertIs(caught.exception.__class__, NoProgram)

    def test_nothing_is_changed(self):
        for seed in range(60):
            chance = random.Random(seed)
            program = made_program(chance)
            values = made_values(chance, program)
            before = (repr(program), list(values))
            first = run(program, values, 300)
            self.assertEqual((repr(program), values), before)
            self.assertEqual(run(program, values, 300), first)

    def test_by_the_names_of_the_arguments(self):
        self.assertEqual(run(program=[(1, [("give", 0)])], values=[4], steps=1), ("gave", 4))


class Made(Runs):
    def test_as_the_second_telling(self):
        seen = {"gave": 0, "dropped": 0, "tired": 0, "deep": 0}
        for seed in range(700):
            chance = random.Random(seed)
            program = made_program(chance)
            values = made_values(chance, program)
            for bound in (chance.randrange(30), 2000):
                answer, steps = plain_run_and_steps(program, values, bound)
                self.assertEqual(run(program, values, bound), answer, seed)
                if answer != ("tired",):
                    self.assertEqual(run(program, values, steps), answer, seed)
                if steps > 0:
                    self.assertEqual(run(program, values, steps - 1), ("tired",), seed)
                seen[answer[0]] += 1
        for what in seen:
            self.assertGreater(seen[what], 50, what)


if __name__ == "__main__":
    unittest.main()
