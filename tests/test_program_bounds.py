"""Program, what it is made of as a whole: point 12 and the order of its errors."""

import itertools
import unittest

from helping import bad_program, no_strings, same_value, too_many
from workerworlds.errors import BadProgram, TooMany
from workerworlds.programs import Program

MODULE_ROWS = ["g = {}", "g |= {a}", "g = {a}", "g -= g", "h = g", "h = g | {a}"]
CALLER_ROWS = ["x = {}", "x |= {a}", "x = g", "g -= x", "g = {a}", "y = g ^ x"]
TASK_ROWS = ["out = item"] * 16


class Marks(unittest.TestCase):

    def test_marks_are_contents_of_one_to_three_marks_at_most_two_plain(self):
        for marks in ["a", "z", "A", "Z", "ab", "az", "Aa", "Zz", "AB", "ABC", "XYZ", "AZa", "Aab", "Zyz"]:
            program = Program(marks, [], [], [])
            self.assertTrue(same_value(program.marks, marks))

    def test_other_strings_are_no_marks(self):
        for marks in ["", "abc", "xyz", "ABCD", "ABCa", "ABab", "Aabc", "abcd", "ba", "aA", "BA", "aa", "AA", "aab",
                      " ", "a ", " a", "a b", "{a}", "1", "-", "a1", "_", "a" * 3000]:
            bad_program(self, "marks", -1, Program, marks, [], [], [])

    def test_other_values_are_no_marks(self):
        for marks in no_strings():
            bad_program(self, "marks", -1, Program, marks, [], [], [])


class Rows(unittest.TestCase):

    def test_no_rows_at_all(self):
        program = Program("ab", [], [], [])
        self.assertTrue(same_value((program.module, program.caller, program.task), ((), (), ())))

    def test_six_and_six_and_sixteen_rows(self):
        program = Program("ab", MODULE_ROWS, CALLER_ROWS, TASK_ROWS)
        self.assertEqual([len(program.module), len(program.caller), len(program.task)], [6, 6, 16])

    def test_one_row_more(self):
        too_many(self, "rows", Program, "ab", MODULE_ROWS + ["g = {}"], CALLER_ROWS, TASK_ROWS)
        too_many(self, "rows", Program, "ab", MODULE_ROWS, CALLER_ROWS + ["g = {}"], TASK_ROWS)
        too_many(self, "rows", Program, "ab", MODULE_ROWS, CALLER_ROWS, TASK_ROWS + ["out = item"])
        too_many(self, "rows", Program, "ab", ["g = {}"] * 7, [], [])
        too_many(self, "rows", Program, "ab", [], ["x = {}"] * 7, [])
        too_many(self, "rows", Program, "ab", [], [], ["stop"] * 17)

    def test_many_more_rows(self):
        for parts in itertools.product([0, 1], repeat=3):
            if any(parts):
                too_many(self, "rows", Program, "ab", *[["g = {}"] * (600 * part) for part in parts])

    def test_rows_of_blocks_count_as_well(self):
        rows = ["if a in item", "end"] * 8
        self.assertEqual(Program("a", [], [], rows).task, tuple(rows))
        too_many(self, "rows", Program, "a", [], [], rows + ["stop"])

    def test_too_many_rows_are_refused_ahead_of_wrong_ones(self):
        too_many(self, "rows", Program, "ab", [None] * 7, [], [])
        too_many(self, "rows", Program, "ab", [], ["?"] * 7, [])
        too_many(self, "rows", Program, "ab", [], [], ["if"] * 17)

    def test_a_part_that_is_no_list(self):
        values = [thing for thing in no_strings() if not isinstance(thing, list)]
        for thing in values + ["", "g = {}", "module", (), ("g = {}",), tuple(MODULE_ROWS), ("g = {}",) * 7]:
            bad_program(self, "module", -1, Program, "ab", thing, [], [])
            bad_program(self, "caller", -1, Program, "ab", [], thing, [])
            bad_program(self, "task", -1, Program, "ab", [], [], thing)


class Names(unittest.TestCase):

    def test_three_globals(self):
        program = Program("ab", ["h = {}", "g = h", "f = g | h", "g = f", "h |= g"], [], [])
        self.assertEqual(program.global_names(), ["f", "g", "h"])

    def test_a_fourth_global(self):
        too_many(self, "globals", Program, "ab", ["h = {}", "g = h", "f = g", "h = f", "e = {}"], [], [])
        too_many(self, "globals", Program, "ab", [f"{word} = {{}}" for word in "abcdef"], [], [])

    def test_how_many_names(self):
        for shared, own in itertools.product(range(4), range(5)):
            module = [f"{word} = {{}}" for word in "fgh"[:shared]]
            caller = [f"{word} = {{}}" for word in "wxyz"[:own]]
            if own > 2 or shared + own > 4:
                too_many(self, "names", Program, "ab", module, caller, [])
            else:
                program = Program("ab", module, caller, [])
                self.assertEqual(program.names(), list("fgh"[:shared] + "wxyz"[:own]))

    def test_globals_that_the_caller_binds_again_are_no_own_names(self):
        module = ["f = {}", "g = {}", "h = {}"]
        caller = ["h = {a}", "g = h", "f = {}", "x = f", "x = h", "f = x"]
        self.assertEqual(Program("ab", module, caller, []).own_names(), ["x"])
        too_many(self, "names", Program, "ab", module, caller[:5] + ["y = {}"], [])

    def test_a_wrong_row_behind_comes_first(self):
        bad_program(self, "module", 4, Program, "ab", [f"{word} = {{}}" for word in "efgh"] + ["i = k"], [], [])
        bad_program(self, "caller", 3, Program, "ab", [], [f"{word} = {{}}" for word in "xyz"] + ["x = k"], [])


# For each part: what is passed, and the error with its fields, None for what is right.
MARKS = [("ab", None), ("ba", (BadProgram, "marks", -1)), (3, (BadProgram, "marks", -1))]
MODULES = [
    (["g = {}"], None),
    (("g = {}",), (BadProgram, "module", -1)),
    (["?"] * 7, (TooMany, "rows")),
    (["e = {}", "f = {}", "g = {}", "h = {}", "x = y"], (BadProgram, "module", 4)),
    (["e = {}", "f = {}", "g = {}", "h = {}"], (TooMany, "globals")),
]
CALLERS = [
    ([], None),
    (None, (BadProgram, "caller", -1)),
    ([True] * 7, (TooMany, "rows")),
    (["x = {}", "y = {}", "z = {}", "z = item"], (BadProgram, "caller", 3)),
    (["x = {}", "y = {}", "z = {}"], (TooMany, "names")),
]
TASKS = [
    ([], None),
    ("stop", (BadProgram, "task", -1)),
    (["if a in out"] * 17, (TooMany, "rows")),
    (["if a in out", "out = x"], (BadProgram, "task", 1)),
    (["if a in out", "stop"], (BadProgram, "task", 2)),
]


class Order(unittest.TestCase):

    def test_the_first_fault_in_the_order_of_the_parts(self):
        for choice in itertools.product(MARKS, MODULES, CALLERS, TASKS):
            faults = [fault for _, fault in choice if fault]
            passed = [thing for thing, _ in choice]
            if not faults:
                self.assertEqual(Program(*passed).marks, "ab")
            elif faults[0][0] is TooMany:
                too_many(self, faults[0][1], Program, *passed)
            else:
                bad_program(self, *faults[0][1:], Program, *passed)

    def test_the_first_wrong_row_of_a_part(self):
        bad_program(self, "module", 1, Program, "ab", ["g = {}", "G = {}", "h = k", None], [], [])
        bad_program(self, "caller", 0, Program, "ab", [], ["x = y", None, "y ="], [])
        bad_program(self, "task", 2, Program, "ab", [], [], ["stop", "out = {}", "end", "?", "else"])
        bad_program(self, "task", 1, Program, "ab", [], [], ["if a in out", "?", "else", "else"])
        bad_program(self, "task", 2, Program, "ab", [], [], ["if a in out", "else", "else", "?"])


class Passed(unittest.TestCase):

    def test_by_name(self):
        program = Program(task=["stop"], caller=["x = {}"], module=["g = {}"], marks="Za")
        self.assertEqual(str(program), "marks Za\nmodule\ng = {}\ncaller\nx = {}\ntask\nstop")
        bad_program(self, "caller", -1, Program, "a", [], task=(), caller=())

    def test_what_is_refused_stays_as_it_is(self):
        module, caller, task = ["g = {}", "h = k"], ["x = {}"], ["stop"]
        bad_program(self, "module", 1, Program, "ab", module, caller, task)
        self.assertEqual((module, caller, task), (["g = {}", "h = k"], ["x = {}"], ["stop"]))


if __name__ == "__main__":
    unittest.main()
