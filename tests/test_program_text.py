"""Program as lines: point 13, str and Program.read."""

import unittest

from helping import bad_program, no_strings, raised, same_value, too_many
from workerworlds.errors import BadText
from workerworlds.programs import Program

EXAMPLE = "marks ab\nmodule\ng = {a}\ncaller\nx = g\ng = x | {b}\ntask\nout = g"
PROGRAMS = [
    ("a", [], [], []),
    ("YZa", ["g = {}"], [], []),
    ("Z", [], ["x = {Z}"], []),
    ("bc", [], [], ["stop"]),
    ("Zab", ["g = {Zab}", "h = g | {}"], ["x = g", "x -= {a}"], ["if not a in item", "fail g from {Z}", "else", "end"]),
    ("ab", ["g = {}"] * 6, ["x = {}"] * 6, ["out = item"] * 16),
    ("ab", ["marked = {}", "mod = {}", "tasks = {}"], ["callers = mod"], ["tasks = mod"]),
]


def bad_text(test, at, text):
    raised(test, BadText, {"at": at}, Program.read, text)


class Written(unittest.TestCase):

    def test_lines(self):
        self.assertEqual(str(Program("ab", ["g = {a}"], ["x = g", "g = x | {b}"], ["out = g"])), EXAMPLE)
        self.assertEqual(str(Program("Z", [], [], [])), "marks Z\nmodule\ncaller\ntask")
        self.assertEqual(str(Program("Z", [], [], ["stop"])), "marks Z\nmodule\ncaller\ntask\nstop")
        self.assertEqual(str(Program("Z", ["g = {}"], [], [])), "marks Z\nmodule\ng = {}\ncaller\ntask")
        self.assertEqual(str(Program("Z", [], ["g = {}"], [])), "marks Z\nmodule\ncaller\ng = {}\ntask")

    def test_the_text_is_a_string(self):
        self.assertIs(str(Program("a", [], [], [])).__class__, str)
        self.assertEqual(f"{Program('a', [], [], [])}", "marks a\nmodule\ncaller\ntask")

    def test_what_is_written_is_read_again(self):
        for marks, module, caller, task in PROGRAMS:
            program = Program(marks, module, caller, task)
            other = Program.read(str(program))
            self.assertIs(other.__class__, Program)
            self.assertIsNot(other, program)
            self.assertTrue(same_value(other.marks, marks))
            self.assertTrue(same_value(other.module, tuple(module)))
            self.assertTrue(same_value(other.caller, tuple(caller)))
            self.assertTrue(same_value(other.task, tuple(task)))
            self.assertEqual(str(other), str(program))
            self.assertEqual(other.letters(), program.letters())
            self.assertEqual(other.begun().rows(), program.begun().rows())

    def test_by_name_and_off_an_object(self):
        self.assertEqual(str(Program.read(text=EXAMPLE)), EXAMPLE)
        self.assertEqual(str(Program("Z", [], [], []).read(EXAMPLE)), EXAMPLE)

    def test_the_example(self):
        program = Program.read(EXAMPLE)
        self.assertEqual(program.begun().rows(), ((("g",), "ab"), (("x",), "a")))


class BadTexts(unittest.TestCase):

    def test_no_string(self):
        for thing in no_strings() + [["marks ab", "module", "caller", "task"], ("marks a", "module", "caller", "task")]:
            bad_text(self, -1, thing)

    def test_the_first_line(self):
        for line in ["", "marks", "mark ab", "Marks ab", "marksab", " marks ab", "module", "marks-ab",
                     "ab", "marks{ab}", "mmarks ab"]:
            for behind in ["", "\nmodule\ncaller\ntask", "\nmodule", "\n?", "\n"]:
                bad_text(self, 0, line + behind)

    def test_the_second_line(self):
        for line in ["", "modules", "Module", " module", "module ", "mod", "caller", "task", "g = {}", "marks ab"]:
            for behind in ["", "\ncaller\ntask", "\nmodule\ncaller\ntask", "\n"]:
                bad_text(self, 1, "marks ab\n" + line + behind)

    def test_no_second_line(self):
        bad_text(self, 1, "marks ab")
        bad_text(self, 1, "marks ")
        bad_text(self, 1, "marks ?")

    def test_no_line_caller(self):
        for behind in [[], ["task"], ["g = {}"], ["g = {}", "task", "out = g"], ["Caller", "task"], ["caller ", "task"],
                       [" caller", "task"], ["callers", "task"], ["module", "task"], [""], ["", ""], ["?"] * 40]:
            bad_text(self, 2 + len(behind), "\n".join(["marks ab", "module"] + behind))

    def test_no_line_task(self):
        for behind in [["caller"], ["g = {}", "caller", "x = {}"], ["task", "caller"],
                       ["task", "task", "caller", "caller"],
                       ["caller", "Task"], ["caller", "task "], ["caller", " task", "stop"], ["caller", "tasks"],
                       ["caller", "caller"], ["caller", "module"], ["caller", ""], ["caller"] + ["?"] * 40]:
            bad_text(self, 2 + len(behind), "\n".join(["marks ab", "module"] + behind))

    def test_these_come_ahead_of_wrong_marks_and_rows(self):
        bad_text(self, 3, "marks ba\nmodule\ng = h")
        bad_text(self, 4, "marks ba\nmodule\ncaller\ng = h")
        bad_text(self, 1, "marks ba\n?")


class Rows(unittest.TestCase):

    def test_marks(self):
        for marks in ["", " ", "ba", "ab ", " ab", "abc", "a b", "1", "marks ab"]:
            bad_program(self, "marks", -1, Program.read, f"marks {marks}\nmodule\n?\ncaller\ntask")

    def test_wrong_rows(self):
        bad_program(self, "module", 1, Program.read, "marks ab\nmodule\ng = {}\nG = {}\ncaller\n?\ntask\n?")
        bad_program(self, "caller", 0, Program.read, "marks ab\nmodule\ng = {}\ncaller\n?\ntask\n?")
        bad_program(self, "task", 2, Program.read, "marks ab\nmodule\ng = {}\ncaller\ntask\nstop\nstop\n?")
        bad_program(self, "task", 2, Program.read, "marks ab\nmodule\ncaller\ntask\nif a in out\nelse")
        too_many(self, "rows", Program.read, "marks ab\nmodule" + "\ng = {}" * 7 + "\ncaller\ntask")
        too_many(self, "rows", Program.read, "marks ab\nmodule\ncaller" + "\ng = {}" * 7 + "\ntask")
        too_many(self, "rows", Program.read, "marks ab\nmodule\ncaller\ntask" + "\nstop" * 17)
        too_many(self, "globals", Program.read, "marks ab\nmodule\na = {}\nb = {}\nc = {}\nd = {}\ncaller\n?\ntask")
        too_many(self, "names", Program.read, "marks ab\nmodule\ncaller\na = {}\nb = {}\nc = {}\ntask\n?")

    def test_empty_lines_are_rows(self):
        bad_program(self, "module", 0, Program.read, "marks ab\nmodule\n\ncaller\ntask")
        bad_program(self, "caller", 0, Program.read, "marks ab\nmodule\ncaller\n\ntask")
        bad_program(self, "task", 0, Program.read, "marks ab\nmodule\ncaller\ntask\n")
        bad_program(self, "task", 1, Program.read, "marks ab\nmodule\ncaller\ntask\nstop\n")
        bad_program(self, "task", 1, Program.read, EXAMPLE + "\n")
        bad_text(self, 0, "\n" + EXAMPLE)

    def test_a_line_caller_at_another_place_is_a_row(self):
        bad_program(self, "caller", 0, Program.read, "marks ab\nmodule\ncaller\ncaller\ntask")
        bad_program(self, "caller", 1, Program.read, "marks ab\nmodule\ncaller\nx = {}\ncaller\ntask\n?")
        bad_program(self, "task", 0, Program.read, "marks ab\nmodule\ncaller\ntask\ncaller")
        bad_program(self, "task", 1, Program.read, "marks ab\nmodule\ncaller\ntask\nstop\ncaller\nx = {}\ntask\nstop")

    def test_a_line_task_at_another_place_is_a_row(self):
        bad_program(self, "module", 0, Program.read, "marks ab\nmodule\ntask\ncaller\ntask")
        bad_program(self, "module", 1, Program.read, "marks ab\nmodule\ng = {}\ntask\ncaller\n?\ntask\n?")
        bad_program(self, "task", 0, Program.read, "marks ab\nmodule\ncaller\ntask\ntask")
        bad_program(self, "task", 1, Program.read, "marks ab\nmodule\ncaller\ntask\nstop\ntask")

    def test_lines_marks_and_module_at_other_places_are_rows(self):
        bad_program(self, "module", 0, Program.read, "marks ab\nmodule\nmodule\ncaller\ntask")
        bad_program(self, "module", 0, Program.read, "marks ab\nmodule\nmarks ab\ncaller\ntask")
        bad_program(self, "caller", 0, Program.read, "marks ab\nmodule\ncaller\nmodule\ntask")
        bad_program(self, "task", 0, Program.read, "marks ab\nmodule\ncaller\ntask\nmarks ab")

    def test_blanks_are_not_taken_away(self):
        bad_program(self, "module", 0, Program.read, "marks ab\nmodule\ng = {} \ncaller\ntask")
        bad_program(self, "caller", 0, Program.read, "marks ab\nmodule\ncaller\n x = {}\ntask")
        bad_program(self, "task", 0, Program.read, "marks ab\nmodule\ncaller\ntask\n  stop")


if __name__ == "__main__":
    unittest.main()
