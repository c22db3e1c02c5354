"""The whole document once more, point by point: one plain example of each, by the interface alone."""

import importlib
import inspect
import unittest

from frameback.checker import checked
from frameback.desk import Desk
from frameback.errors import Astray, FrameError, NoLine, NoName, NoProgram, NoRow, NoTable, NoText
from frameback.guess import guess
from frameback.joined import joined, laid
from frameback.machine import Machine
from frameback.maker import made
from frameback.pressed import entry_at, press, unpressed
from frameback.program_texts import read_program, shown_program
from frameback.reader import callers
from frameback.row_texts import read_code, read_row, show_code, show_row
from frameback.rows import Add, Copy, Get, Grow, Less, Mul, Put, Row, Set, Shrink, Sub
from frameback.runner import run
from frameback.tables import START, Table
from frameback.talk import is_program
from frameback.ways import Back, Branch, Call, Drop, Jump

# The function at row 0 puts its kept boxes and its way back away and calls the one at row 12, which drops box 1;
# this lands at row 9.
CODE = [
    Grow(2), Put(7, 0), Put(4, 1), Set(4, 99), Call(12), Get(4, 1), Get(7, 0), Shrink(2), Back(7),
    Add(0, 0, 0), Jump(5), Jump(11), Drop(1),
]
LANDINGS = {4: 9}

# Lands what function 1 drops, doubles it and gives it.
PROGRAM = [(1, [("try", [("call", 1, 1, [0])], 2, [("sum", 0, 2, 2)]), ("give", 0)]), (1, [("drop", 0)])]
TEXT = "fun 1; try; call 1 1 0; landing 2; sum 0 2 2; end; give 0; fun 1; drop 0"


def stepped(machine, steps=1000):
    while steps > 0 and machine.word() == "runs":
        machine.step()
        steps -= 1
    return machine


class Interface(unittest.TestCase):
    def parameters(self, what):
        return [str(part) for part in inspect.signature(what).parameters.values()]

    def test_functions_and_their_arguments(self):
        for module, name, parameters in (
                ("row_texts", "show_row", ["row"]), ("row_texts", "show_code", ["code"]), ("row_texts", "read_row", ["text"]),
                ("row_texts", "read_code", ["text"]), ("reader", "callers", ["table", "row", "boxes", "pile"]),
                ("checker", "checked", ["code", "table"]), ("guess", "guess", ["code", "landings=None"]),
                ("pressed", "press", ["table"]), ("pressed", "unpressed", ["rows"]), ("pressed", "entry_at", ["rows", "row"]),
                ("joined", "laid", ["code", "by"]), ("joined", "joined", ["parts"]), ("talk", "is_program", ["program"]),
                ("runner", "run", ["program", "values", "steps"]), ("maker", "made", ["program", "homes=None"]),
                ("program_texts", "shown_program", ["program"]), ("program_texts", "read_program", ["text"]),
                ("tables", "Table", ["entries", "landings=None"]), ("desk", "Desk", []),
                ("machine", "Machine", ["code", "table", "boxes", "start=0"])):
            found = getattr(importlib.import_module(f"frameback.{module}"), name)
            self.assertEqual(self.parameters(found), parameters, name)

    def test_rows_and_their_arguments(self):
        for kind, parameters in ((Set, "box number"), (Copy, "box one"), (Add, "box one other"), (Sub, "box one other"),
                                 (Mul, "box one other"), (Less, "box one other"), (Grow, "many"), (Shrink, "many"),
                                 (Put, "box cell"), (Get, "box cell"), (Jump, "target"), (Branch, "box target"),
                                 (Call, "target"), (Back, "box"), (Drop, "box")):
            self.assertEqual(self.parameters(kind), parameters.split(" "))
            self.assertTrue(issubclass(kind, Row))
            for method, handed in (("runs", "at boxes pile"), ("goes", "at"), ("height", "high"), ("keeps", "places high"),
                                   ("told", ""), ("laid", "by")):
                self.assertEqual(self.parameters(getattr(kind, method))[1:], handed.split(" ") if handed else [])

    def test_none_of_the_fifteen_under_another_one(self):
        kinds = (Set, Copy, Add, Sub, Mul, Less, Grow, Shrink, Put, Get, Jump, Branch, Call, Back, Drop)
        for kind in kinds:
            self.assertEqual([other for other in kinds if issubclass(kind, other)], [kind])

    def test_methods_without_arguments(self):
        for name in ("at", "boxes", "pile", "word", "book", "fault", "step"):
            self.assertEqual(self.parameters(getattr(Machine, name)), ["self"])
        self.assertEqual(self.parameters(Desk.say), ["self", "row"])


class Stages1To3(unittest.TestCase):
    def test_01_the_whole(self):
        machine = stepped(Machine(CODE, guess(CODE, LANDINGS), [1, 21, 0, 0, 14, 15, 16]))
        self.assertEqual((machine.word(), machine.boxes()[0], machine.boxes()[4:7]), ("ended", 42, [14, 15, 16]))

    def test_02_nothing_handed_in_is_changed(self):
        boxes, pile = [0] * 8, [5]
        Put(0, 0).runs(0, boxes, pile)
        self.assertEqual((boxes, pile), ([0] * 8, [5]))

    def test_03_refusals_and_the_promise(self):
        for kind in (NoRow, NoTable, NoText, NoProgram, NoLine, NoName, Astray):
            self.assertEqual(kind.__bases__, (FrameError,))
        self.assertEqual(FrameError.__bases__, (ValueError,))
        table = guess(CODE, LANDINGS)
        machine = Machine(CODE, table, [1, 21, 0, 0, 14, 15, 16])
        while machine.word() == "runs":
            self.assertEqual(callers(table, machine.at(), machine.boxes(), machine.pile()), machine.book())
            machine.step()

    def test_04_values_boxes_and_cells(self):
        self.assertEqual(Get(0, 0).runs(0, [0] * 8, [1, 2, 3])[1][0], 3)
        self.assertEqual(Get(0, 2).runs(0, [0] * 8, [1, 2, 3])[1][0], 1)
        self.assertEqual(Set(7, 4294967295).runs(0, [0] * 8, [])[1][7], 4294967295)

    def test_05_rows_are_made_of_whole_numbers(self):
        for make in (lambda: Set(8, 0), lambda: Set(0, 4294967296), lambda: Grow(4001), lambda: Jump(2001), lambda: Back(-1)):
            self.assertRaises(NoRow, make)
        self.assertEqual(Sub(0, 1, 2).runs(4, [9, 1, 2, 0, 0, 0, 0, 0], [])[1][0], 4294967295)

    def test_06_a_row_is_run(self):
        self.assertEqual(Call(3).runs(5, [0] * 8, [7]), (3, [0, 0, 0, 0, 0, 0, 0, 6], [7]))
        self.assertIsNone(Shrink(2).runs(5, [0] * 8, [7]))

    def test_07_rows_that_may_come_next(self):
        self.assertEqual((Branch(0, 5).goes(4), Call(9).goes(4), Back(0).goes(4)), ([5, 5], [5], []))

    def test_08_sets_of_places(self):
        self.assertEqual(Put(0, 2).keeps(1, 3), 1 + 256)

    def test_09_heights(self):
        self.assertEqual((Grow(3).height(1), Shrink(3).height(2), Get(0, 2).height(2)), (4, None, None))

    def test_10_places_kept(self):
        self.assertEqual((Copy(2, 2).keeps(5, 0), Set(0, 1).keeps(5, 0), Call(0).keeps(511, 1)), (5, 4, 368))

    def test_11_rows_told_and_laid(self):
        self.assertEqual((Put(4, 0).told(), Branch(1, 5).laid(-5).told()), (("put", 4, 0), ("branch", 1, 0)))

    def test_12_rows_as_texts(self):
        self.assertEqual(show_code(read_code("put 4 0\njump 1")), "put 4 0\njump 1")
        self.assertEqual(show_row(read_row("set 0 4294967295")), "set 0 4294967295")
        self.assertRaises(NoText, read_row, "put 4 00")
        self.assertRaises(NoRow, read_row, "put 8 0")

    def test_13_tables(self):
        self.assertEqual(START, (0, 128, (16, 32, 64)))
        self.assertEqual((Table([START]).entries, Table([START]).landings), ([START], {}))

    def test_14_the_machine(self):
        machine = Machine([Grow(4000), Grow(1)], Table([START, None]), [0] * 7)
        self.assertEqual((stepped(machine).word(), machine.at()), ("fault", 1))

    def test_15_the_book(self):
        machine = stepped(Machine([Call(1), Back(7)], Table([START, START]), [0, 0, 0, 0, 4, 5, 6]), 1)
        self.assertEqual(machine.book(), [(1, (4, 5, 6), 0), (2, (4, 5, 6), 0)])

    def test_16_a_drop(self):
        machine = stepped(Machine(CODE, guess(CODE, LANDINGS), [1, 21, 0, 0, 14, 15, 16]), 6)
        self.assertEqual((machine.at(), machine.boxes()[0], machine.boxes()[4]), (9, 21, 99))
        machine = stepped(Machine(CODE, guess(CODE), [1, 21, 0, 0, 14, 15, 16]))
        self.assertEqual((machine.word(), machine.fault()), ("dropped", 21))

    def test_17_the_reader(self):
        self.assertEqual(callers(Table([START]), 0, [0, 0, 0, 0, 4, 5, 6, 1], [9]), [(1, (4, 5, 6), 1)])
        self.assertEqual(callers(Table([START]), 1, [0] * 8, []), [])

    def test_18_astray(self):
        with self.assertRaises(Astray) as caught:
            callers(Table([START, None]), 0, [0, 0, 0, 0, 4, 5, 6, 1], [])
        self.assertEqual(caught.exception.row, 1)


class Stages4To8(unittest.TestCase):
    def test_19_the_checker(self):
        self.assertEqual(checked([Back(6)], Table([START])), [(0, 0, "back")])
        self.assertEqual(checked([Set(4, 0), Back(7)], Table([START, START])), [(0, 1, 4)])

    def test_20_landings_checked(self):
        self.assertEqual(checked([Back(7)], Table([START], {0: 0})), [(0, 0, "call")])

    def test_21_what_is_let_by(self):
        table = guess(CODE, LANDINGS)
        self.assertEqual(checked(CODE, table), [])
        machine = Machine(CODE, table, [1, 21, 0, 0, 14, 15, 16])
        while machine.word() == "runs":
            self.assertIsNotNone(table.entries[machine.at()])
            machine.step()

    def test_22_the_guess(self):
        table = guess(CODE, LANDINGS)
        self.assertEqual((table.entries[0], table.entries[11], table.landings), (START, None, LANDINGS))
        self.assertEqual(table.entries[3], (2, 128 + 512, (16 + 256, 32, 64)))
        self.assertRaises(NoTable, guess, CODE, {4: 13})

    def test_23_and_24_short_rows(self):
        table = unpressed([("keep",), ("height", 1), ("same", 1), ("again",), ("same", 1), ("none", 1), ("land", 0, 1)])
        self.assertEqual((table.entries, table.landings), ([(1, 128, (16, 32, 64)), START, None], {0: 1}))
        self.assertRaises(NoTable, unpressed, [("again",)])

    def test_25_tables_pressed(self):
        table = guess(CODE, LANDINGS)
        again = unpressed(press(table))
        self.assertEqual((again.entries, again.landings), (table.entries, LANDINGS))

    def test_26_one_entry(self):
        self.assertEqual(entry_at(press(guess(CODE, LANDINGS)), 3), (2, 640, (272, 32, 64)))
        self.assertRaises(NoTable, entry_at, [("same", 1)], 1)

    def test_27_code_joined(self):
        part = (CODE, guess(CODE, LANDINGS))
        code, table = joined([part, part])
        self.assertEqual([row.told() for row in code[13:]], [row.told() for row in laid(CODE, 13)])
        self.assertEqual((checked(code, table), table.landings), ([], {4: 9, 17: 22}))
        self.assertEqual(stepped(Machine(code, table, [1, 21, 0, 0, 0, 0, 0], 13)).boxes()[0], 42)
        self.assertRaises(NoTable, joined, [part] * 154)

    def test_28_functions_and_names(self):
        self.assertEqual(run([(2, [("sum", 5, 0, 1), ("sum", 5, 5, 4), ("give", 5)])], [3, 4], 9), ("gave", 7))

    def test_29_statements(self):
        self.assertEqual(run(PROGRAM, [21], 9), ("gave", 42))
        self.assertEqual(run(PROGRAM[1:], [21], 9), ("dropped", 21))

    def test_30_what_a_program_is(self):
        self.assertIs(is_program(PROGRAM), True)
        self.assertIs(is_program([(0, [("set", 6, 0)])]), False)
        for ask in (lambda: run([], [], 0), lambda: made([]), lambda: shown_program([])):
            self.assertRaises(NoProgram, ask)

    def test_31_steps_and_calls(self):
        self.assertEqual(run(PROGRAM, [21], 4), ("tired",))
        self.assertEqual(run([(0, [("call", 0, 0, [])])], [], 21), ("deep",))
        self.assertRaises(NoProgram, run, PROGRAM, [], 9)

    def test_32_homes(self):
        for homes in (None, [(0, 1, 2), (None, 0, None)]):
            self.assertEqual(checked(*made(PROGRAM, homes)), [])
        self.assertRaises(NoProgram, made, PROGRAM, [(0, 0, None), (None, None, None)])

    def test_33_what_is_made(self):
        code, table = made(PROGRAM)
        self.assertEqual([code[call].told()[0] for call in table.landings], ["call"])
        self.assertLessEqual(max(entry[0] for entry in table.entries if entry), 12)

    def test_34_what_is_made_does_as_the_program(self):
        machine = stepped(Machine(*made(PROGRAM), [21, 9, 9, 9, 9, 9, 9]), 600)
        self.assertEqual((machine.word(), machine.boxes()[0]), ("ended", 42))

    def test_35_programs_as_texts(self):
        self.assertEqual((shown_program(PROGRAM), read_program(TEXT)), (TEXT, PROGRAM))
        self.assertRaises(NoText, read_program, TEXT + ";")
        self.assertRaises(NoProgram, read_program, "fun 4")

    def test_36_the_desk(self):
        desk = Desk()
        for row, answer in (("program p " + TEXT, "ok"), ("make p p", "ok"), ("code c " + show_code(CODE), "ok"),
                            ("show p", TEXT), ("rows c", show_code(CODE)), ("checked c", "none"), ("run p 9 21", "gave 42"),
                            ("play p 600 21", "ended 42"), ("play c 99 1 21", "dropped 21"),
                            ("callers c 5 1 2 3 4 14 15 16", "5 99 15 16 2; 13 14 15 16 0"),
                            ("book c 5 1 2 3 4 14 15 16", "5 99 15 16 2; 13 14 15 16 0")):
            self.assertEqual(desk.say(row), answer)
        self.assertRaises(NoLine, desk.say, "show")
        self.assertRaises(NoName, desk.say, "show q")
        self.assertRaises(NoText, desk.say, "play c x")


if __name__ == "__main__":
    unittest.main()
