"""Points 29 and 31: try and drop, and a hand in the SOME of a try."""

import unittest

from frameback.runner import run


def set_and(*rest):
    """A body that puts 11 to 15 into the names 1 to 5 first."""
    return [("set", name, 10 + name) for name in range(1, 6)] + list(rest)


# A function that drops what it is handed.
DROPS = (1, [("drop", 0), ("set", 0, 99), ("give", 0)])


class Tries(unittest.TestCase):
    def gives(self, program, values, value, steps=200):
        self.assertEqual(run(program, values, steps), ("gave", value))

    def drops(self, program, values, value, steps=200):
        self.assertEqual(run(program, values, steps), ("dropped", value))


class Here(Tries):
    def test_nothing_is_dropped(self):
        self.gives([(1, [("try", [("set", 1, 4)], 0, [("set", 1, 5)]), ("give", 1)])], [7], 4)
        self.gives([(1, [("try", [], 0, [("set", 0, 5)]), ("give", 0)])], [7], 7)
        self.gives([(1, [("try", [], 0, []), ("give", 0)])], [7], 7)

    def test_a_drop_in_some(self):
        self.gives([(1, [("try", [("drop", 0), ("set", 0, 99)], 1, []), ("give", 1)])], [7], 7)
        self.gives([(1, [("try", [("drop", 0)], 0, [("sum", 0, 0, 0)]), ("give", 0)])], [7], 14)
        self.gives([(1, [("try", [("set", 1, 3), ("drop", 1), ("set", 0, 99)], 2, [("set", 5, 1)]), ("give", 0)])], [7], 7)

    def test_it_goes_on_behind_the_try(self):
        program = [(1, [("try", [("drop", 0)], 1, [("sum", 2, 1, 1)]), ("sum", 2, 2, 0), ("give", 2)])]
        self.gives(program, [7], 21)

    def test_a_drop_within_other_statements_of_some(self):
        inner = [("if", 0, [("while", 0, [("drop", 0), ("set", 0, 99)])], [])]
        self.gives([(1, [("try", inner, 3, [("give", 3)])])], [7], 7)
        self.gives([(1, [("try", inner, 3, [("give", 3)])])], [0], 0)

    def test_the_innermost_try(self):
        inner = ("try", [("drop", 0)], 1, [("set", 2, 5)])
        self.gives([(1, [("try", [inner], 1, [("set", 2, 6)]), ("give", 2)])], [7], 5)
        self.gives([(1, [("try", [inner, ("drop", 2)], 3, [("give", 3)])])], [7], 5)

    def test_a_drop_in_others_lands_at_the_try_around(self):
        inner = ("try", [("drop", 0)], 1, [("sum", 1, 1, 1), ("drop", 1), ("set", 2, 99)])
        self.gives([(1, [("try", [inner], 2, [("give", 2)]), ("give", 5)])], [7], 14)
        self.gives([(1, [("try", [inner, ("set", 3, 99)], 2, []), ("sum", 4, 2, 3), ("give", 4)])], [7], 14)

    def test_a_drop_in_others_lands_nowhere(self):
        self.drops([(1, [("try", [("drop", 0)], 1, [("sum", 1, 1, 1), ("drop", 1)]), ("give", 0)])], [7], 14)
        nested = ("try", [], 2, [])
        self.drops([(1, [("try", [("drop", 0)], 1, [nested, ("drop", 1)]), ("give", 0)])], [7], 7)

    def test_a_try_in_others(self):
        program = [(1, [("try", [("drop", 0)], 1, [("try", [("drop", 1)], 2, [("give", 2)])])])]
        self.gives(program, [7], 7)

    def test_a_try_that_is_over_or_to_come(self):
        self.drops([(1, [("try", [], 1, [("give", 5)]), ("drop", 0)])], [7], 7)
        self.drops([(1, [("drop", 0), ("try", [("drop", 0)], 1, [("give", 5)])])], [7], 7)

    def test_a_drop_that_lands_nowhere(self):
        self.drops([(1, [("drop", 0)])], [7], 7)
        self.drops([(0, [("drop", 3)])], [], 0)
        self.drops([(1, [("while", 0, [("if", 0, [("drop", 0)], [])])])], [4294967295], 4294967295)

    def test_the_names_as_they_were_when_it_was_dropped(self):
        for name, value in enumerate((7, 11, 12, 13, 7, 15)):
            self.gives([(1, [("try", set_and(("drop", 0), ("set", name, 99)), 4, []), ("give", name)])], [7], value)

    def test_many_times(self):
        # Each turn drops what is left of name 0 and lands; name 2 gets their sum.
        turn = [("try", [("drop", 0)], 1, [("sum", 2, 2, 1)]), ("minus", 0, 0, 5)]
        program = [(1, [("set", 5, 1), ("while", 0, turn), ("give", 2)])]
        self.gives(program, [10], 55)


class Farther(Tries):
    def test_in_a_function_called_in_some(self):
        self.gives([(1, [("try", [("call", 1, 1, [0]), ("set", 0, 99)], 2, [("give", 2)])]), DROPS], [7], 7)

    def test_the_names_as_they_were_when_the_function_was_called(self):
        for name, value in enumerate((7, 11, 12, 13, 7, 15)):
            some = set_and(("call", name, 1, [0]), ("set", name, 99))
            self.gives([(1, [("try", some, 4, []), ("give", name)]), DROPS], [7], value)

    def test_the_name_for_the_value_given_stays(self):
        self.gives([(1, [("set", 1, 5), ("try", [("call", 1, 1, [0])], 2, []), ("give", 1)]), DROPS], [7], 5)

    def test_a_call_in_others(self):
        program = [(1, [("try", [("drop", 0)], 1, [("call", 2, 1, [1])]), ("give", 0)]), DROPS]
        self.drops(program, [7], 7)
        program = [(1, [("try", [("try", [("drop", 0)], 1, [("sum", 1, 1, 1), ("call", 2, 1, [1])])], 3, [("give", 3)])]),
                   DROPS]
        self.gives(program, [7], 14)

    def test_through_several_calls(self):
        through = [(1, [("sum", 0, 0, 0), ("call", 1, at + 1, [0]), ("set", 0, 99), ("give", 0)]) for at in range(1, 6)]
        self.gives([(1, [("try", [("call", 1, 1, [0])], 2, [("give", 2)])])] + through + [DROPS], [1], 32)
        self.drops([(1, [("call", 1, 1, [0])])] + through + [DROPS], [1], 32)

    def test_the_newest_try_on_the_way(self):
        middle = (1, [("try", [("call", 1, 2, [0])], 2, [("sum", 2, 2, 0)]), ("give", 2)])
        self.gives([(1, [("try", [("call", 1, 1, [0])], 2, [("give", 2)]), ("give", 1)]), middle, DROPS], [7], 14)

    def test_a_call_behind_a_try_of_the_function_on_the_way(self):
        middle = (1, [("try", [("set", 1, 1)], 2, [("give", 2)]), ("call", 1, 2, [0]), ("give", 5)])
        self.gives([(1, [("try", [("call", 1, 1, [0]), ("give", 1)], 2, [("sum", 2, 2, 2), ("give", 2)])]), middle, DROPS],
                   [7], 14)

    def test_dropped_again_outward(self):
        again = (1, [("try", [("call", 1, 2, [0])], 2, [("sum", 2, 2, 2), ("drop", 2)]), ("give", 5)])
        self.gives([(1, [("try", [("call", 1, 1, [0])], 2, [("give", 2)])]), again, DROPS], [7], 14)
        self.drops([(1, [("call", 1, 1, [0])]), again, DROPS], [7], 14)

    def test_a_function_that_calls_itself(self):
        # Each of the calls lands what the one within drops, and drops one more.
        program = [(1, [("set", 1, 1), ("if", 0, [], [("drop", 0)]), ("minus", 2, 0, 1),
                        ("try", [("call", 3, 0, [2]), ("give", 5)], 4, [("sum", 4, 4, 1), ("drop", 4)])])]
        self.drops(program, [10], 10)


class Hands(Tries):
    def test_what_is_dropped_lands_at_the_hand(self):
        self.gives([(1, [("try", [("hand", 1, [0])], 2, [("sum", 2, 2, 2), ("give", 2)])]), DROPS], [7], 14)

    def test_what_is_given_is_given(self):
        program = [(1, [("try", [("hand", 1, [0]), ("set", 0, 99)], 2, [("set", 0, 98)]), ("give", 0)]),
                   (1, [("sum", 0, 0, 0), ("give", 0)])]
        self.gives(program, [7], 14)
        self.gives([(1, [("try", [("hand", 1, [0])], 2, []), ("give", 0)]), (1, [])], [7], 0)

    def test_the_names_as_they_were_when_it_handed_on(self):
        for name, value in enumerate((7, 11, 12, 13, 7, 15)):
            self.gives([(1, [("try", set_and(("hand", 1, [0])), 4, []), ("give", name)]), DROPS], [7], value)

    def test_in_no_some_it_is_dropped_outward(self):
        handing = (1, [("try", [], 1, [("give", 5)]), ("hand", 2, [0])])
        self.gives([(1, [("try", [("call", 1, 1, [0])], 2, [("give", 2)])]), handing, DROPS], [7], 7)
        self.drops([(1, [("call", 1, 1, [0])]), handing, DROPS], [7], 7)
        self.drops([(1, [("hand", 1, [0])]), DROPS], [7], 7)

    def test_in_others(self):
        handing = ("try", [("drop", 0)], 1, [("sum", 1, 1, 1), ("hand", 1, [1])])
        self.drops([(1, [handing, ("give", 5)]), DROPS], [7], 14)
        self.gives([(1, [("try", [handing, ("give", 5)], 2, [("give", 2)])]), DROPS], [7], 14)

    def test_within_other_statements_of_some(self):
        inner = ("while", 0, [("if", 0, [("hand", 1, [0])], [])])
        self.gives([(1, [("try", [inner], 3, [("sum", 3, 3, 3), ("give", 3)])]), DROPS], [7], 14)

    def test_the_function_handed_to_hands_on(self):
        handing = (1, [("sum", 0, 0, 0), ("hand", 2, [0])])
        self.gives([(1, [("try", [("hand", 1, [0])], 2, [("give", 2)])]), handing, DROPS], [7], 14)


if __name__ == "__main__":
    unittest.main()
