"""Points 33, 34, 21 and 3: what is made does as the program, and at every step the reader tells the book."""

import random
import unittest

from frameback.checker import checked
from frameback.joined import joined
from frameback.machine import Machine
from frameback.maker import made
from tests.plain_runner import plain_run_and_steps
from tests.programs import NUMBERS, made_program, made_values
from tests.test_maker import made_homes
from tests.test_promise import Promise
from tests.test_steps import CALLS, HANDS, HANDS_IN_OTHERS, HANDS_IN_SOME

HOMES = ((None, None, None), (0, 1, 2), (5, 4, 3), (None, 0, None), (1, None, 5))


class DoesAs(Promise):
    def boxes(self, chance, values):
        """The values in the first boxes, the others as one likes."""
        return list(values) + [chance.choice(NUMBERS) for box in range(7 - len(values))]

    def does(self, program, values, homes=None, bound=2000, seed=0):
        """Run both: the same answer, the made code within so many rows; tell the answer."""
        answer, steps = plain_run_and_steps(program, values, bound)
        if answer[0] not in ("gave", "dropped"):
            return answer
        code, table = made(program, homes)
        boxes = self.boxes(random.Random(seed), values)
        machine = Machine(code, table, boxes)
        left = 100 * steps + 100
        while machine.word() == "runs" and left > 0:
            machine.step()
            left -= 1
        if answer[0] == "gave":
            self.assertEqual((machine.word(), machine.boxes()[0]), ("ended", answer[1]))
            self.assertEqual((machine.boxes()[4:7], machine.pile(), machine.book()), (boxes[4:7], [], []))
        else:
            self.assertEqual((machine.word(), machine.fault()), ("dropped", answer[1]))
        return answer


class MadePrograms(DoesAs):
    def test_many(self):
        seen = {"gave": 0, "dropped": 0, "tired": 0, "deep": 0}
        for seed in range(500):
            chance = random.Random(seed)
            program = made_program(chance)
            for homes in (None, made_homes(chance, program), made_homes(chance, program)):
                values = made_values(chance, program)
                seen[self.does(program, values, homes, chance.choice((50, 500, 2000)), seed)[0]] += 1
        self.assertGreater(seen["gave"], 500)
        self.assertGreater(seen["dropped"], 50)

    def test_the_reader_tells_the_book_at_every_step(self):
        # Those that are tired or too deep are followed too: they are code that is let by.
        for seed in range(200):
            chance = random.Random(seed)
            program = made_program(chance, chance.choice((5, 8)), chance.choice((40, 80)))
            code, table = made(program, made_homes(chance, program))
            self.follow(code, table, self.boxes(chance, made_values(chance, program)), 0, 300)
        for what in self.seen:
            self.assertGreater(self.seen[what], 10, what)


class Joined(DoesAs):
    def test_parts_do_as_their_programs(self):
        answers = 0
        for seed in range(40):
            chance = random.Random(seed)
            programs = [made_program(chance, chance.choice((1, 3)), 20) for part in range(4)]
            parts = [made(program, made_homes(chance, program)) for program in programs]
            code, table = joined(parts)
            self.assertEqual(checked(code, table), [])
            start = 0
            for program, part in zip(programs, parts):
                values = made_values(chance, program)
                answer, steps = plain_run_and_steps(program, values, 50)
                rows = 100 * steps + 101 if answer[0] in ("gave", "dropped") else 100
                machine = self.follow(code, table, self.boxes(chance, values), start, rows)
                if answer[0] == "gave":
                    self.assertEqual((machine.word(), machine.boxes()[0]), ("ended", answer[1]))
                if answer[0] == "dropped":
                    self.assertEqual((machine.word(), machine.fault()), answer)
                answers += answer[0] in ("gave", "dropped")
                start += len(part[0])
        self.assertGreater(answers, 80)


class ByHand(DoesAs):
    def does_with_each(self, program, values, answer, bound=2000):
        for home in HOMES:
            self.assertEqual(self.does(program, values, [home] * len(program), bound), answer)
        self.assertEqual(self.does(program, values, None, bound), answer)

    def test_nothing_is_done(self):
        self.does_with_each([(0, [])], [], ("gave", 0), 0)
        self.does_with_each([(3, [])], [7, 8, 9], ("gave", 0), 0)

    def test_what_names_hold_at_the_begin(self):
        for name, value in enumerate((7, 8, 0, 0, 0, 0)):
            self.does_with_each([(2, [("give", name)])], [7, 8], ("gave", value))
            self.does_with_each([(2, [("drop", name)])], [7, 8], ("dropped", value))
            called = [(2, [("set", 4, 9), ("set", 5, 9), ("call", 3, 1, [0, 1]), ("give", 3)]), (2, [("give", name)])]
            self.does_with_each(called, [7, 8], ("gave", value))

    def test_reckoning_with_every_home(self):
        for word, value in (("sum", 1), ("minus", 4294967291), ("product", 4294967290), ("less", 0)):
            for into, one, other in ((0, 0, 1), (1, 0, 1), (5, 0, 1), (0, 1, 0), (3, 4, 5), (2, 2, 2)):
                statements = [("set", one, 4294967294), ("set", other, 3), (word, into, one, other), ("give", into)]
                if one == other:
                    value = {"sum": 6, "minus": 0, "product": 9, "less": 0}[word]
                self.does_with_each([(0, statements)], [], ("gave", value))

    def test_hands_to_itself_many_hundred_times(self):
        for program in (HANDS, HANDS_IN_OTHERS):
            for homes in (None, [(0, 1, 5)], [(5, None, 0)]):
                code, table = made(program, homes)
                machine = Machine(code, table, [900] + [3] * 6)
                longest = 0
                while machine.word() == "runs":
                    machine.step()
                    longest = max(longest, len(machine.pile()))
                self.assertEqual((machine.word(), machine.boxes()[0]), ("ended", 1))
                self.assertLessEqual(longest, 12)
            self.does_with_each(program, [900], ("gave", 1), 20000)

    def test_deep_calls(self):
        for program in (CALLS, HANDS_IN_SOME):
            self.does_with_each(program, [20], ("gave", 1))
            self.assertEqual(self.does(program, [21]), ("deep",))

    def test_values_in_their_boxes(self):
        program = [(3, [("call", 5, 1, [2, 0, 1]), ("give", 5)]),
                   (3, [("product", 0, 0, 0), ("minus", 0, 0, 1), ("sum", 0, 0, 2), ("give", 0)])]
        self.does_with_each(program, [10, 20, 30], ("gave", 910))
        program[0] = (3, [("hand", 1, [2, 0, 1])])
        self.does_with_each(program, [10, 20, 30], ("gave", 910))
        program[0] = (3, [("try", [("hand", 1, [2, 0, 1])], 0, [])])
        self.does_with_each(program, [10, 20, 30], ("gave", 910))

    def test_names_behind_a_landing(self):
        drops = (1, [("set", 1, 91), ("set", 2, 92), ("set", 3, 93), ("set", 4, 94), ("set", 5, 95), ("drop", 0)])
        sets = [("set", name, 10 + name) for name in range(1, 6)]
        for dropping in (("drop", 0), ("call", 1, 1, [0]), ("hand", 1, [0])):
            for name, value in enumerate((7, 11, 12, 13, 7, 15)):
                program = [(1, [("try", sets + [dropping, ("set", name, 99)], 4, []), ("give", name)]), drops]
                self.does_with_each(program, [7], ("gave", value))

    def test_a_drop_through_several_calls(self):
        through = [(1, [("sum", 0, 0, 0), ("call", 1, at + 1, [0]), ("set", 0, 99), ("give", 0)]) for at in range(1, 6)]
        drops = (1, [("drop", 0)])
        program = [(1, [("try", [("call", 1, 1, [0])], 2, [("give", 2)])])] + through + [drops]
        self.does_with_each(program, [1], ("gave", 32))
        program[0] = (1, [("try", [], 2, []), ("call", 1, 1, [0])])
        self.does_with_each(program, [1], ("dropped", 32))

    def test_landing_again_and_again(self):
        turn = [("try", [("call", 1, 1, [0])], 1, [("sum", 2, 2, 1)]), ("minus", 0, 0, 5)]
        program = [(1, [("set", 5, 1), ("while", 0, turn), ("give", 2)]), (1, [("drop", 0)])]
        self.does_with_each(program, [10], ("gave", 55))

    def test_other_homes_for_each_function(self):
        program = [(1, [("set", 1, 1), ("if", 0, [], [("give", 1)]), ("minus", 2, 0, 1), ("call", 3, 1, [2]),
                        ("product", 3, 3, 0), ("give", 3)]),
                   (1, [("copy", 4, 0), ("call", 5, 0, [4]), ("sum", 0, 0, 1), ("give", 5)])]
        for first in HOMES:
            for second in HOMES:
                self.assertEqual(self.does(program, [8], [first, second]), ("gave", 40320))

    def test_a_program_may_be_changed_behind_the_call(self):
        body = [("give", 0)]
        program, homes = [(1, body)], [(0, None, None)]
        code, table = made(program, homes)
        told = [row.told() for row in code]
        body.clear()
        program.clear()
        homes.clear()
        self.assertEqual([row.told() for row in code], told)


if __name__ == "__main__":
    unittest.main()
