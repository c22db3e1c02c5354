"""Points 36, 2 and 3: the desk, its rows, its answers, its refusals and their order."""

import random
import unittest

from frameback.desk import Desk
from frameback.errors import FrameError, NoLine, NoName, NoProgram, NoRow, NoTable, NoText
from frameback.guess import guess
from frameback.machine import Machine
from frameback.maker import made
from frameback.program_texts import shown_program
from frameback.row_texts import read_code, show_code
from frameback.runner import run
from tests.functions import made_functions
from tests.programs import made_program, made_values

# Function 0 calls function 1, which drops what it is handed; and the same with a try round the call.
DROPS = "fun 1; while 0; call 1 1 0; end; give 1; fun 1; drop 0"
LANDS = "fun 1; try; call 1 1 0; landing 2; sum 0 2 2; end; give 0; fun 1; drop 0"
CODE = "grow 1\nput 7 0\ncall 6\nget 7 0\nshrink 1\nback 7\nset 3 9\ndrop 1"
TWICE = "add 0 0 0\nback 7"


class Desks(unittest.TestCase):
    def setUp(self):
        self.desk = Desk()

    def says(self, row, answer):
        told = self.desk.say(row)
        self.assertIs(told.__class__, str)
        self.assertEqual(told, answer, row)

    def refused(self, kind, row, name=None):
        with self.assertRaises(FrameError) as caught:
            self.desk.say(row)
        self.assertIs(caught.exception.__class__, kind, row)
        if kind is NoName:
            self.assertEqual(caught.exception.name, name, row)


class Rows(Desks):
    def test_program_and_show(self):
        self.says("program p " + DROPS, "ok")
        self.says("show p", DROPS)
        self.says("program abcdefgh fun 0", "ok")
        self.says("show abcdefgh", "fun 0")

    def test_make_and_rows(self):
        self.says("program p " + LANDS, "ok")
        self.says("make c p", "ok")
        program = [(1, [("try", [("call", 1, 1, [0])], 2, [("sum", 0, 2, 2)]), ("give", 0)]), (1, [("drop", 0)])]
        self.says("rows c", show_code(made(program)[0]))
        self.says("checked c", "none")
        self.says("play c 1000 21", "ended 42")

    def test_code(self):
        for text in (CODE, TWICE, "", "drop 0", "jump 0"):
            self.says("code c " + text, "ok")
            self.says("rows c", text)
            self.says("checked c", "none")

    def test_run(self):
        self.says("program p " + DROPS, "ok")
        self.says("run p 20000 5", "dropped 5")
        self.says("run p 3 5", "dropped 5")
        self.says("run p 2 5", "tired")
        self.says("run p 0 5", "tired")
        self.says("run p 2 0", "gave 0")
        self.says("run p 20000 4294967295", "dropped 4294967295")
        self.says("program p fun 0", "ok")
        self.says("run p 0", "gave 0")
        self.says("program p fun 3; sum 0 0 1; sum 0 0 2; give 0", "ok")
        self.says("run p 9 100 20 3", "gave 123")
        self.says("program p fun 0; call 0 0", "ok")
        self.says("run p 21", "deep")
        self.says("run p 20", "tired")

    def test_play(self):
        self.says("code c " + TWICE, "ok")
        self.says("play c 2 21", "ended 42")
        self.says("play c 20000 21", "ended 42")
        self.says("play c 1 21", "runs")
        self.says("play c 0", "runs")
        self.says("play c 2", "ended 0")
        self.says("play c 2 4294967295 1 2 3 4 5 6", "ended 4294967294")
        self.says("code c " + CODE, "ok")
        self.says("play c 4 7 8", "runs")
        self.says("play c 5 7 8", "dropped 8")
        self.says("play c 5", "dropped 0")
        self.says("play c 20000 1 2 3 4 5 6 7", "dropped 2")
        self.says("code c jump 0", "ok")
        self.says("play c 20000", "runs")
        self.says("code c ", "ok")
        self.says("play c 0 77", "ended 77")

    def test_play_a_fault(self):
        self.says("code c grow 4000\nput 7 0\ncall 0\ndrop 0", "ok")
        self.says("play c 3", "runs")
        self.says("play c 4", "fault")
        self.says("book c 4 1 2 3 4 5 6 7", "3 5 6 7 4000; 4 5 6 7 0")
        self.says("callers c 4 1 2 3 4 5 6 7", "3 5 6 7 4000; 4 5 6 7 0")

    def test_each_value_in_its_box(self):
        for box in range(7):
            self.says(f"code c copy 0 {box}\nback 7", "ok")
            for many in range(8):
                values = [str(20 + value) for value in range(many)]
                self.says(" ".join(["play c 5"] + values), f"ended {20 + box if box < many else 0}")

    def test_callers_and_book(self):
        self.says("code c " + CODE, "ok")
        for word in ("callers", "book"):
            self.says(f"{word} c 0", "8 0 0 0 0")
            self.says(f"{word} c 2 1 2 3 4 14 15 16", "8 14 15 16 0")
            self.says(f"{word} c 3 1 2 3 4 14 15 16", "3 14 15 16 1; 8 14 15 16 0")
        self.says("code c back 7", "ok")
        for word in ("callers", "book"):
            self.says(f"{word} c 0 1 2 3 4 5 6 7", "1 5 6 7 0")
            self.says(f"{word} c 1", "none")

    def test_callers_and_book_of_code_without_rows(self):
        self.says("code c ", "ok")
        self.says("callers c 5", "none")
        self.says("book c 5 1 2 3 4 5 6 7", "0 5 6 7 0")
        self.says("rows c", "")
        self.says("checked c", "none")

    def test_a_kept_box_that_a_function_filled(self):
        self.says("code c grow 2\nput 7 0\nput 4 1\nset 4 99\ncall 9\nget 4 1\nget 7 0\nshrink 2\nback 7\nback 7", "ok")
        self.says("book c 5 0 0 0 0 14 15 16", "5 99 15 16 2; 10 14 15 16 0")
        self.says("callers c 5 0 0 0 0 14 15 16", "5 99 15 16 2; 10 14 15 16 0")

    def test_a_program_and_a_code_by_the_same_name(self):
        self.says("program a " + DROPS, "ok")
        self.says("code a " + TWICE, "ok")
        self.says("show a", DROPS)
        self.says("rows a", TWICE)
        self.says("run a 9 5", "dropped 5")
        self.says("play a 9 5", "ended 10")
        self.says("make a a", "ok")
        self.says("show a", DROPS)
        self.says("play a 100 5", "dropped 5")

    def test_a_name_put_again(self):
        self.says("program a " + DROPS, "ok")
        self.says("make c a", "ok")
        self.says("program a fun 0; set 0 8; give 0", "ok")
        self.says("show a", "fun 0; set 0 8; give 0")
        self.says("run a 9", "gave 8")
        self.says("play c 100 5", "dropped 5")
        self.says("make c a", "ok")
        self.says("play c 100 5", "ended 8")
        self.says("code c " + TWICE, "ok")
        self.says("play c 100 5", "ended 10")
        self.says("code c " + CODE, "ok")
        self.says("rows c", CODE)

    def test_made_programs(self):
        for seed in range(60):
            chance = random.Random(seed)
            program = made_program(chance)
            values = made_values(chance, program)
            numbers = "".join(f" {value}" for value in values)
            self.says("program p " + shown_program(program), "ok")
            self.says("show p", shown_program(program))
            answer = run(program, values, 150)
            self.says(f"run p 150{numbers}", " ".join(str(part) for part in answer))
            self.says("make c p", "ok")
            self.says("checked c", "none")
            if answer[0] in ("gave", "dropped"):
                word = {"gave": "ended", "dropped": "dropped"}[answer[0]]
                self.says(f"play c 15100{numbers}", f"{word} {answer[1]}")
            self.assertEqual(self.desk.say(f"callers c 40{numbers}"), self.desk.say(f"book c 40{numbers}"))

    def test_made_functions(self):
        told = 0
        for seed in range(60):
            chance = random.Random(seed)
            code, landings = made_functions(chance, 3)
            self.says("code c " + show_code(code), "ok")
            values = [chance.choice((0, 1, 2, 3)) for box in range(chance.randrange(8))]
            numbers = "".join(f" {value}" for value in values)
            machine = Machine(code, guess(code), values + [0] * (7 - len(values)))
            steps = chance.randrange(30)
            for time in range(steps):
                machine.step()
            book = "; ".join(f"{row} {kept[0]} {kept[1]} {kept[2]} {length}" for row, kept, length in machine.book())
            self.says(f"book c {steps}{numbers}", book or "none")
            self.says(f"callers c {steps}{numbers}", book or "none")
            self.assertEqual(self.desk.say(f"play c {steps}{numbers}").split(" ")[0], machine.word())
            told += len(machine.book()) > 1
        self.assertGreater(told, 5)


class Lines(Desks):
    def setUp(self):
        Desks.setUp(self)
        self.desk.say("program p " + DROPS)
        self.desk.say("code c " + TWICE)

    def test_what_is_no_text(self):
        for row in (None, 0, 5, True, [], (), {}, b"show p", ["show p"], ("show", "p")):
            self.refused(NoLine, row)

    def test_other_words(self):
        for row in ("", " ", "x", "Show p", "SHOW p", "shows p", "sho p", "show\tp", "show\np", "show;p", " show p", "p",
                    "ok", "none", "read p", "press c", "\nshow p", "name p", "values c", "text"):
            self.refused(NoLine, row)

    def test_another_number_of_words(self):
        for row in ("program", "program p", "make", "make c", "make c p ", "make c p p", "make c  p", "code", "code c", "show",
                    "show p p", "show p ", "show  p", "rows", "rows c ", "rows c c", "checked", "checked c c", "checked c ",
                    "run", "run p", "play", "play c", "callers", "callers c", "book", "book c",
                    "run p 5 1 2 3 4 5 6 7 8", "play c 5 1 2 3 4 5 6 7 8", "callers c 5 1 2 3 4 5 6 7 8",
                    "book c 5 1 2 3 4 5 6 7 8", "play c 5 1 2 3 4 5 6 7 ", "run p 5 1 2 3 4 5 6 7 8 9 10"):
            self.refused(NoLine, row)

    def test_ahead_of_all_else(self):
        for row in ("program P", "make P", "make X Y Z", "show q q", "rows q ", "run q", "run q x 1 2 3 4 5 6 7 8",
                    "play q 20001 1 2 3 4 5 6 7 8", "book"):
            self.refused(NoLine, row)

    def test_words_without_signs(self):
        self.refused(NoName, "show ", "")
        self.refused(NoName, "program  fun 0", "")
        self.refused(NoName, "program  ", "")
        self.refused(NoName, "code  ", "")
        self.refused(NoName, "make  p", "")
        self.refused(NoName, "make c ", "")
        self.refused(NoName, "run  5", "")
        self.refused(NoName, "play  ", "")
        self.refused(NoText, "run p ")
        self.refused(NoText, "run p  5")
        self.refused(NoText, "run p 5 ")
        self.refused(NoText, "run p 5  1")
        self.refused(NoText, "play c 5 1 ")
        self.refused(NoText, "play c 5 1 2 3 4 5 6 ")

    def test_the_text_is_all_that_follows(self):
        self.refused(NoText, "program q ")
        self.says("code q ", "ok")
        self.refused(NoText, "program q  fun 0")
        self.refused(NoText, "program q fun 0 ")
        self.refused(NoText, "code q  back 7")
        self.refused(NoText, "code q back 7 ")
        self.refused(NoText, "code q back 7\n")
        self.refused(NoText, "code q \n")
        self.refused(NoText, "code q  ")


class Names(Desks):
    def setUp(self):
        Desks.setUp(self)
        self.desk.say("program p " + DROPS)
        self.desk.say("code c " + TWICE)

    def test_what_is_no_name(self):
        for name in ("", "A", "aB", "a1", "1", "a_", "a-b", "abcdefghi", "abcdefghijkl", "\u00e4", "a\n", "\ta", "p;", "a.b"):
            self.refused(NoName, f"program {name} fun 0", name)
            self.refused(NoName, f"code {name} back 7", name)
            self.refused(NoName, f"make {name} p", name)
            self.refused(NoName, f"make c {name}", name)
            for row in ("show {}", "rows {}", "checked {}", "run {} 5 1", "play {} 5", "callers {} 5", "book {} 5"):
                self.refused(NoName, row.replace("{}", name), name)

    def test_what_is_a_name(self):
        for name in ("a", "z", "abcdefgh", "program", "ok", "none", "show", "zzzzzzzz"):
            self.says(f"program {name} fun 0", "ok")
            self.says(f"show {name}", "fun 0")
            self.says(f"make {name} {name}", "ok")
            self.says(f"play {name} 100", "ended 0")

    def test_nothing_is_kept_under_it(self):
        for row in ("show {}", "run {} 5 1", "make c {}"):
            self.refused(NoName, row.replace("{}", "q"), "q")
            self.refused(NoName, row.replace("{}", "c"), "c")
        for row in ("rows {}", "checked {}", "play {} 5", "callers {} 5", "book {} 5 1 2 3"):
            self.refused(NoName, row.replace("{}", "q"), "q")
            self.refused(NoName, row.replace("{}", "p"), "p")

    def test_from_the_left(self):
        self.refused(NoName, "make C Q", "C")
        self.refused(NoName, "make C p", "C")
        self.refused(NoName, "make c Q", "Q")
        self.refused(NoName, "make q r", "r")
        self.refused(NoName, "run q x", "q")
        self.refused(NoName, "play q 20001 x", "q")
        self.refused(NoName, "callers P 5", "P")
        self.refused(NoName, "program P x", "P")
        self.refused(NoName, "code C x", "C")
        self.refused(NoText, "run p x 1 2")
        self.refused(NoText, "run p 5 x 2")
        self.refused(NoText, "run p 5 1 x")
        self.refused(NoProgram, "run p 5 1 2")


class Numbers(Desks):
    def setUp(self):
        Desks.setUp(self)
        self.desk.say("program p " + DROPS)
        self.desk.say("code c " + TWICE)

    def test_what_is_no_number(self):
        for number in ("", "x", "00", "01", "-1", "+1", "1.0", "0x1", "1_0", "42949672950", "00000000000", "\u0661", "1\n"):
            for row in ("run p {} 1", "run p 5 {}", "play c {}", "play c {} 1", "play c 5 {}", "play c 5 1 2 3 4 5 6 {}",
                        "callers c {}", "callers c 5 1 {}", "book c {}", "book c 5 {} 1"):
                self.refused(NoText, row.replace("{}", number))

    def test_steps_of_20000_and_20001(self):
        for row in ("run p {} 0", "play c {}", "callers c {}", "book c {} 1"):
            self.assertIsInstance(self.desk.say(row.replace("{}", "20000")), str)
            for steps in ("20001", "4294967295", "4294967296", "9999999999"):
                self.refused(NoText, row.replace("{}", steps))

    def test_values_of_4294967295_and_4294967296(self):
        for row in ("run p 9 {}", "play c 5 {}", "play c 5 1 2 3 4 5 6 {}", "callers c 5 1 {}", "book c 5 {} 1"):
            self.assertIsInstance(self.desk.say(row.replace("{}", "4294967295")), str)
            for value in ("4294967296", "9999999999"):
                self.refused(NoText, row.replace("{}", value))

    def test_seven_values_and_eight(self):
        for row in ("play c 5", "callers c 5", "book c 5"):
            self.assertIsInstance(self.desk.say(row + " 1 2 3 4 5 6 7"), str)
            self.refused(NoLine, row + " 1 2 3 4 5 6 7 8")
        self.refused(NoProgram, "run p 5 1 2 3 4 5 6 7")
        self.refused(NoLine, "run p 5 1 2 3 4 5 6 7 8")


class Refusals(Desks):
    def test_what_the_row_does_refuses(self):
        self.says("program p " + DROPS, "ok")
        self.refused(NoText, "program q fun")
        self.refused(NoText, "program q " + "x" * 9000)
        self.refused(NoProgram, "program q fun 4")
        self.refused(NoProgram, "program q fun 0" + "; set 0 1" * 81)
        self.refused(NoText, "code q jumps 0")
        self.refused(NoText, "code q jump 0;jump 0")
        self.refused(NoRow, "code q back 8")
        self.refused(NoRow, "code q jump 2001")
        self.refused(NoTable, "code q jump 1")
        self.refused(NoTable, "code q set 0 1")
        self.refused(NoTable, "code q set 7 1\nback 7")
        self.refused(NoTable, "code q grow 1\nback 7")
        for row in ("run p 5", "run p 5 1 2", "run p 0", "run p 20000 1 2 3"):
            self.refused(NoProgram, row)
        for row in ("show q", "rows q"):
            self.refused(NoName, row, "q")

    def test_what_is_refused_changes_nothing(self):
        self.says("program a " + DROPS, "ok")
        self.says("code a " + TWICE, "ok")
        for kind, row in ((NoText, "program a fun"), (NoProgram, "program a fun 4"), (NoText, "program a "), (NoLine, "program a"),
                          (NoText, "code a back"), (NoRow, "code a back 8"), (NoTable, "code a jump 1"), (NoLine, "code a"),
                          (NoName, "make a b"), (NoLine, "make a"), (NoProgram, "run a 5 1 2"), (NoText, "play a 20001")):
            self.refused(kind, row, "b")
            self.says("show a", DROPS)
            self.says("rows a", TWICE)
            self.says("play a 9 5", "ended 10")

    def test_answers_change_nothing(self):
        self.says("program a " + DROPS, "ok")
        self.says("code a " + CODE, "ok")
        for turn in range(2):
            self.says("run a 9 5", "dropped 5")
            self.says("play a 9 5 6", "dropped 6")
            self.says("callers a 9 5 6", "3 0 0 0 1; 8 0 0 0 0")
            self.says("book a 3 5 6", "3 0 0 0 1; 8 0 0 0 0")
            self.says("checked a", "none")
            self.says("show a", DROPS)
            self.says("rows a", CODE)

    def test_two_desks(self):
        other = Desk()
        self.says("program a " + DROPS, "ok")
        self.says("code a " + TWICE, "ok")
        for row in ("show a", "rows a"):
            with self.assertRaises(NoName):
                other.say(row)
        other.say("program a fun 0")
        other.say("code a back 7")
        self.says("show a", DROPS)
        self.says("rows a", TWICE)
        self.assertEqual(other.say("show a"), "fun 0")
        self.assertEqual(Desk().say("code a "), "ok")

    def test_by_the_name_of_the_argument(self):
        self.assertEqual(self.desk.say(row="code a "), "ok")

    def test_the_code_kept_is_the_one_that_was_read(self):
        self.says("code a " + CODE, "ok")
        self.assertEqual(show_code(read_code(CODE)), self.desk.say("rows a"))


if __name__ == "__main__":
    unittest.main()
