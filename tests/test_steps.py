"""Point 31: steps counted up to a bound, and calls within one another."""

import unittest

from frameback.runner import run

TIRED = ("tired",)
DEEP = ("deep",)


def down(*last):
    """A program whose function 0 does the last statements with name 0 counted down by name 5, where it isn't 0 yet."""
    return [(1, [("set", 5, 1), ("if", 0, [("minus", 0, 0, 5)] + list(last), [("give", 5)])])]


CALLS = down(("call", 1, 0, [0]), ("give", 1))
HANDS_IN_SOME = down(("try", [("hand", 0, [0])], 1, [("set", 1, 99), ("give", 1)]))
HANDS_IN_OTHERS = down(("try", [("drop", 0)], 0, [("hand", 0, [0])]))
HANDS = down(("hand", 0, [0]))


class Steps(unittest.TestCase):
    def takes(self, program, values, steps, answer):
        """The run takes just so many steps."""
        for bound in (steps, steps + 1, 20000):
            self.assertEqual(run(program, values, bound), answer, bound)
        for bound in range(steps):
            self.assertEqual(run(program, values, bound), TIRED, bound)


class EachKind(Steps):
    def test_a_bound_of_0(self):
        self.assertEqual(run([(0, [])], [], 0), ("gave", 0))
        for statement in (("set", 0, 1), ("give", 0), ("drop", 0), ("while", 0, []), ("if", 0, [], []), ("hand", 0, []),
                          ("try", [], 0, []), ("call", 0, 0, []), ("copy", 0, 0), ("sum", 0, 0, 0)):
            self.assertEqual(run([(0, [statement])], [], 0), TIRED)

    def test_plain_statements(self):
        for statement in (("set", 0, 1), ("copy", 0, 1), ("sum", 0, 1, 2), ("minus", 0, 1, 2), ("product", 0, 1, 2),
                          ("less", 0, 1, 2)):
            self.takes([(0, [statement])], [], 1, ("gave", 0))
            self.takes([(0, [statement] * 5)], [], 5, ("gave", 0))

    def test_give_and_drop(self):
        self.takes([(1, [("give", 0), ("set", 0, 1)])], [7], 1, ("gave", 7))
        self.takes([(1, [("drop", 0), ("set", 0, 1)])], [7], 1, ("dropped", 7))

    def test_call_and_hand(self):
        self.takes([(0, [("call", 0, 1, [])]), (0, [])], [], 1, ("gave", 0))
        self.takes([(0, [("call", 0, 1, [])]), (0, [("set", 0, 1)])], [], 2, ("gave", 0))
        self.takes([(0, [("hand", 1, [])]), (0, [])], [], 1, ("gave", 0))
        self.takes([(0, [("hand", 1, [])]), (0, [("give", 0)])], [], 2, ("gave", 0))
        self.takes([(0, [("try", [("hand", 1, [])], 0, [])]), (0, [("give", 0)])], [], 3, ("gave", 0))

    def test_if(self):
        for value, steps in ((0, 3), (1, 2)):
            self.takes([(1, [("if", 0, [("set", 1, 1)], [("set", 1, 1)] * 2)])], [value], steps, ("gave", 0))
            self.takes([(1, [("if", 0, [], [])])], [value], 1, ("gave", 0))

    def test_while_counts_its_tests(self):
        program = [(1, [("set", 1, 1), ("while", 0, [("minus", 0, 0, 1)])])]
        for value in range(5):
            self.takes(program, [value], 2 + 2 * value, ("gave", 0))
        self.takes([(1, [("while", 0, [("give", 0)])])], [7], 2, ("gave", 7))
        self.takes([(1, [("while", 0, [("drop", 0)])])], [7], 2, ("dropped", 7))

    def test_a_while_left_by_a_drop(self):
        self.takes([(1, [("try", [("while", 0, [("drop", 0)])], 1, [])])], [7], 3, ("gave", 0))

    def test_try(self):
        self.takes([(1, [("try", [], 0, [("set", 0, 1)])])], [7], 1, ("gave", 0))
        self.takes([(1, [("try", [("set", 0, 1)], 0, [("set", 0, 1)])])], [7], 2, ("gave", 0))
        self.takes([(1, [("try", [("drop", 0)], 1, [])])], [7], 2, ("gave", 0))
        self.takes([(1, [("try", [("drop", 0)], 1, [("give", 1)])])], [7], 3, ("gave", 7))

    def test_a_drop_through_calls_is_one_step(self):
        program = [(1, [("try", [("call", 0, 1, [0])], 1, [("give", 1)])]), (1, [("call", 0, 2, [0])]), (1, [("drop", 0)])]
        self.takes(program, [7], 5, ("gave", 7))

    def test_tired_in_some_of_a_try(self):
        self.assertEqual(run([(1, [("try", [("while", 0, [])], 1, [("give", 1)])])], [7], 50), TIRED)

    def test_a_bound_of_20000(self):
        for program in ([(1, [("while", 0, [])])], [(1, [("hand", 0, [0])])],
                        [(1, [("while", 0, [("try", [("call", 1, 1, [0])], 1, [])])]), (1, [("drop", 0)])]):
            self.assertEqual(run(program, [1], 20000), TIRED)
        # 6 steps, and two for each turn.
        program = [(1, [("set", 1, 1), ("while", 0, [("minus", 0, 0, 1)]), ("set", 2, 1), ("set", 2, 3), ("set", 2, 4),
                        ("give", 2)])]
        self.assertEqual(run(program, [9997], 20000), ("gave", 4))
        self.assertEqual(run(program, [9998], 20000), TIRED)


class Deep(Steps):
    def test_20_calls_within_one_another(self):
        self.takes(CALLS, [20], 5 * 20 + 3, ("gave", 1))
        self.takes(CALLS, [21], 4 * 21, DEEP)
        self.assertEqual(run(CALLS, [4000], 20000), DEEP)

    def test_20_hands_in_some(self):
        self.takes(HANDS_IN_SOME, [20], 5 * 20 + 3, ("gave", 1))
        self.takes(HANDS_IN_SOME, [21], 5 * 21, DEEP)

    def test_calls_and_hands_in_some_together(self):
        program = [(1, [("set", 5, 1), ("if", 0, [("minus", 0, 0, 5), ("call", 1, 1, [0]), ("give", 1)], [("give", 5)])]),
                   (1, [("try", [("hand", 0, [0])], 1, [])])]
        self.takes(program, [10], 7 * 10 + 3, ("gave", 1))
        self.takes(program, [11], 6 * 10 + 4, DEEP)

    def test_hands_are_no_deeper(self):
        self.assertEqual(run(HANDS, [4000], 20000), ("gave", 1))
        self.assertEqual(run(HANDS_IN_OTHERS, [3000], 20000), ("gave", 1))

    def test_hands_at_20_calls(self):
        # 20 calls of function 0, and the last one hands on to function 1, again and again.
        program = [(1, [("set", 5, 1), ("if", 0, [("minus", 0, 0, 5), ("call", 1, 0, [0]), ("give", 1)], []),
                        ("set", 0, 50), ("hand", 1, [0])]),
                   (1, [("set", 5, 1), ("if", 0, [("minus", 0, 0, 5), ("hand", 1, [0])], []), ("give", 5)])]
        self.assertEqual(run(program, [20], 20000), ("gave", 1))
        self.assertEqual(run(program, [21], 20000), DEEP)
        calling = [program[0], (1, [("call", 1, 1, [0])])]
        self.takes(calling, [19], 4 * 19 + 6, DEEP)
        self.takes(calling, [20], 4 * 20 + 5, DEEP)

    def test_calls_that_came_back_or_dropped_count_no_more(self):
        turn = [("call", 1, 1, [0]), ("try", [("call", 1, 2, [0])], 1, []), ("try", [("hand", 2, [0])], 1, []),
                ("minus", 0, 0, 5)]
        program = [(1, [("set", 5, 1), ("while", 0, turn), ("give", 5)]), (1, []), (1, [("drop", 0)])]
        self.assertEqual(run(program, [100], 20000), ("gave", 1))

    def test_a_drop_out_of_20_calls(self):
        program = down(("call", 1, 0, [0]), ("give", 1))
        program[0][1][1][3][0] = ("drop", 5)
        self.assertEqual(run(program, [20], 20000), ("dropped", 1))
        self.assertEqual(run(program, [21], 20000), DEEP)

    def test_deep_and_tired_at_once(self):
        self.assertEqual(run(CALLS, [30], 4 * 21 - 1), TIRED)
        self.assertEqual(run(CALLS, [30], 4 * 21), DEEP)

    def test_deep_in_some_of_a_try(self):
        program = [(1, [("try", [("call", 1, 0, [0])], 1, [("give", 1)])])]
        self.takes(program, [7], 42, DEEP)


if __name__ == "__main__":
    unittest.main()
