"""Program, what it is: points 12, 14 and 25, and the section workerworlds/programs.py of the interface."""

import itertools
import unittest

from helping import bad_program, same_value, too_many
from workerworlds import programs
from workerworlds.boxes import Box
from workerworlds.programs import Program
from workerworlds.worlds import World

MODULE = ["h = {a}", "g = h", "g |= {b}", "kept = g - {b}"]
CALLER = ["z = g", "g = z | {Z}"]
TASK = ["if a in item", "kept |= item", "else", "stop", "end", "out = kept"]


def some_program():
    return Program("Zab", list(MODULE), list(CALLER), list(TASK))


class Interface(unittest.TestCase):

    def test_what_the_class_has(self):
        self.assertEqual(Program.__module__, "workerworlds.programs")
        self.assertIs(programs.Program, Program)
        for name in ["global_names", "own_names", "names", "letters", "imported", "begun", "changed", "read",
                     "__str__"]:
            self.assertIn(name, Program.__dict__)
        self.assertIsInstance(Program.__dict__["read"], staticmethod)


class Attributes(unittest.TestCase):

    def test_marks_and_rows(self):
        program = some_program()
        self.assertTrue(same_value(program.marks, "Zab"))
        self.assertTrue(same_value(program.module, tuple(MODULE)))
        self.assertTrue(same_value(program.caller, tuple(CALLER)))
        self.assertTrue(same_value(program.task, tuple(TASK)))

    def test_lists_that_were_passed_may_be_changed(self):
        module, caller, task = list(MODULE), list(CALLER), list(TASK)
        program = Program("Zab", module, caller, task)
        worlds = program.imported().rows(), program.begun().rows()
        self.assertEqual((module, caller, task), (MODULE, CALLER, TASK))
        module.append("?")
        module[0] = "g = {}"
        caller.clear()
        del task[0]
        self.assertEqual(program.module, tuple(MODULE))
        self.assertEqual(program.caller, tuple(CALLER))
        self.assertEqual(program.task, tuple(TASK))
        self.assertEqual((program.imported().rows(), program.begun().rows()), worlds)
        self.assertEqual(program.names(), ["g", "h", "kept", "z"])

    def test_lists_that_were_returned_may_be_changed(self):
        program = some_program()
        for call in (program.global_names, program.own_names, program.names, program.letters):
            first = call()
            wanted = list(first)
            first.reverse()
            first.append("w")
            self.assertTrue(same_value(call(), wanted))
            first = call()
            first.clear()
            self.assertTrue(same_value(call(), wanted))
        self.assertEqual(program.names(), ["g", "h", "kept", "z"])
        self.assertEqual(str(program), str(some_program()))

    def test_two_programs_share_nothing(self):
        module, caller, task = list(MODULE), list(CALLER), list(TASK)
        one, other = Program("Zab", module, caller, task), Program("Zab", module, caller, task)
        self.assertEqual(str(one), str(other))
        one.begun()["g"].become("")
        one.names().append("w")
        self.assertEqual(other.begun().rows(), some_program().begun().rows())
        self.assertEqual(other.names(), ["g", "h", "kept", "z"])


class Names(unittest.TestCase):

    def check(self, module, caller, shared, own):
        program = Program("ab", module, caller, [])
        self.assertTrue(same_value(program.global_names(), shared))
        self.assertTrue(same_value(program.own_names(), own))
        self.assertTrue(same_value(program.names(), sorted(shared + own)))

    def test_no_names(self):
        self.check([], [], [], [])

    def test_globals_ascend(self):
        self.check(["kept = {}", "g = {}", "a = g"], [], ["a", "g", "kept"], [])
        for order in itertools.permutations(["b", "ba", "c"]):
            self.check([f"{word} = {{}}" for word in order], [], ["b", "ba", "c"], [])

    def test_own_names_ascend(self):
        self.check([], ["y = {}", "x = y"], [], ["x", "y"])
        self.check([], ["x = {}", "y = x"], [], ["x", "y"])

    def test_both_kinds_ascend_together(self):
        self.check(["m = {}", "d = {}"], ["z = m", "a = {}"], ["d", "m"], ["a", "z"])
        self.check(["b = {}"], ["c = {}", "a = b"], ["b"], ["a", "c"])
        self.check(["d = {}", "b = {}", "a = {}"], ["c = {}"], ["a", "b", "d"], ["c"])

    def test_a_name_that_is_bound_again_is_one_name(self):
        self.check(["g = {}", "g = g", "g = g | g"], ["x = {}", "x = g", "g = x"], ["g"], ["x"])

    def test_a_global_that_the_caller_binds_is_no_own_name(self):
        self.check(["g = {}", "h = {}"], ["g = {a}", "h = g"], ["g", "h"], [])


class Letters(unittest.TestCase):

    def check(self, marks, caller, wanted):
        program = Program(marks, ["g = {}"], caller, ["g |= item"])
        self.assertTrue(same_value(program.letters(), wanted), program.letters())

    def test_boxes_of_plain_marks(self):
        self.check("a", [], [("box", ""), ("box", "a")])
        self.check("ab", [], [("box", ""), ("box", "a"), ("box", "ab"), ("box", "b")])
        self.check("kz", [], [("box", ""), ("box", "k"), ("box", "kz"), ("box", "z")])

    def test_bound_marks_are_in_no_letter(self):
        self.check("Za", [], [("box", ""), ("box", "a")])
        self.check("Zab", [], [("box", ""), ("box", "a"), ("box", "ab"), ("box", "b")])
        self.check("YZb", [], [("box", ""), ("box", "b")])
        self.check("Z", [], [("box", "")])
        self.check("XYZ", [], [("box", "")])

    def test_own_names_stand_behind(self):
        self.check("a", ["x = g"], [("box", ""), ("box", "a"), ("name", "x")])
        self.check("a", ["y = g", "a = {}"], [("box", ""), ("box", "a"), ("name", "a"), ("name", "y")])
        self.check("ab", ["x = {}", "b = x"], [
            ("box", ""), ("box", "a"), ("box", "ab"), ("box", "b"), ("name", "b"), ("name", "x")])
        self.check("Z", ["x = {Z}"], [("box", ""), ("name", "x")])

    def test_globals_are_no_letters(self):
        self.check("a", ["g = {}"], [("box", ""), ("box", "a")])


class ImportedAndBegun(unittest.TestCase):

    def check(self, module, caller, imported, begun):
        program = Program("Zab", module, caller, [])
        self.assertTrue(same_value(program.imported().rows(), imported), program.imported())
        self.assertTrue(same_value(program.begun().rows(), begun), program.begun())

    def test_no_rows(self):
        self.check([], [], (), ())
        self.check(["g = {a}"], [], ((("g",), "a"),), ((("g",), "a"),))
        self.check([], ["x = {a}"], (), ((("x",), "a"),))

    def test_a_word_shares_and_a_set_does_not(self):
        self.check(["g = {a}", "h = g", "k = {a}"], ["x = h", "h = k"],
                   ((("g", "h"), "a"), (("k",), "a")), ((("g", "x"), "a"), (("h", "k"), "a")))

    def test_signs_between_two_make_new_boxes(self):
        for sign, contents in [("|", "Zab"), ("&", "a"), ("-", "Z"), ("^", "Zb")]:
            self.check(["g = {Za}", "h = {ab}", f"k = g {sign} h"], [],
                       ((("g",), "Za"), (("h",), "ab"), (("k",), contents)),
                       ((("g",), "Za"), (("h",), "ab"), (("k",), contents)))
            self.check(["g = {Za}", f"g = g {sign} {{ab}}"], [f"x = {{Za}} {sign} {{ab}}"],
                       ((("g",), contents),), ((("g",), contents), (("x",), contents)))

    def test_signs_between_two_share_with_none(self):
        for sign in "|&":
            self.check(["g = {a}", "h = g", f"g = g {sign} g"], [f"h |= {{b}}"],
                       ((("g",), "a"), (("h",), "a")), ((("g",), "a"), (("h",), "ab")))

    def test_signs_in_place_change_what_is_shared(self):
        for sign, contents in [("|", "Zab"), ("&", "a"), ("-", "Z"), ("^", "Zb")]:
            self.check(["g = {Za}", "h = g", f"g {sign}= {{ab}}"], [f"x = {{Za}}", f"x {sign}= {{ab}}"],
                       ((("g", "h"), contents),), ((("g", "h"), contents), (("x",), contents)))
            self.check(["g = {Za}", "h = g", "k = {ab}", f"g {sign}= k", "k -= k"], [],
                       ((("g", "h"), contents), (("k",), "")), ((("g", "h"), contents), (("k",), "")))

    def test_a_box_and_itself(self):
        for sign, contents in [("|=", "ab"), ("&=", "ab"), ("-=", ""), ("^=", "")]:
            self.check(["g = {ab}", f"g {sign} g"], [], ((("g",), contents),), ((("g",), contents),))
            self.check(["g = {ab}", "h = g", f"g {sign} h"], [], ((("g", "h"), contents),), ((("g", "h"), contents),))

    def test_binding_again_leaves_the_box_as_it_is(self):
        self.check(["g = {a}", "h = g", "g = {b}"], ["x = g", "g = h | x"],
                   ((("g",), "b"), (("h",), "a")), ((("g",), "ab"), (("h",), "a"), (("x",), "b")))

    def test_rows_run_in_order(self):
        for module, h in [(["g = {}", "h = g | {a}", "g |= {b}"], "a"), (["g = {}", "g |= {b}", "h = g | {a}"], "ab")]:
            wanted = ((("g",), "b"), (("h",), h))
            self.check(module, [], wanted, wanted)
            self.check([], module, (), wanted)

    def test_the_caller_changes_boxes_of_the_module(self):
        self.check(["g = {a}", "h = g"], ["x = g", "x |= {Z}", "g = {}"],
                   ((("g", "h"), "a"),), ((("g",), ""), (("h", "x"), "Za")))

    def test_words_that_are_marks_and_words_of_python(self):
        self.check(["a = {b}", "b = {a}", "for = a | b"], ["def = for", "a = b"],
                   ((("a",), "b"), (("b",), "a"), (("for",), "ab")),
                   ((("a", "b"), "a"), (("def", "for"), "ab")))

    def test_worlds_are_new_each_time(self):
        program = some_program()
        for call, names in [(program.imported, ["g", "h", "kept"]), (program.begun, ["g", "h", "kept", "z"])]:
            first, second = call(), call()
            self.assertIs(first.__class__, World)
            wanted = first.rows()
            self.assertEqual(first.names(), names)
            self.assertIsNot(first, second)
            for one, other in itertools.product(names, repeat=2):
                self.assertIsNot(first[one], second[other])
            for name in names:
                first[name].become("")
            first["new"] = Box()
            first.unbind("g")
            self.assertEqual(second.rows(), wanted)
            self.assertEqual(call().rows(), wanted)

    def test_the_begun_world_shares_nothing_with_the_imported_one(self):
        program = Program("ab", ["g = {a}"], ["x = g"], [])
        imported, begun = program.imported(), program.begun()
        self.assertIsNot(imported["g"], begun["g"])
        begun["x"] |= Box("b")
        self.assertEqual((imported.rows(), begun.rows()), (((("g",), "a"),), ((("g", "x"), "ab"),)))

    def test_the_task_has_no_part_in_it(self):
        self.check(["g = {a}"], [], ((("g",), "a"),), ((("g",), "a"),))
        program = Program("ab", ["g = {a}"], [], ["g |= {b}", "fail g"])
        self.assertEqual(program.begun().rows(), ((("g",), "a"),))


class Changed(unittest.TestCase):

    def test_each_part_alone_and_several(self):
        new = {"module": ["g = {}", "h = {Z}", "kept = h"], "caller": ["w = h"], "task": ["out = kept"]}
        for many in range(4):
            for parts in itertools.combinations(sorted(new), many):
                program = some_program()
                other = program.changed(**{part: list(new[part]) for part in parts})
                self.assertIs(other.__class__, Program)
                self.assertIsNot(other, program)
                self.assertTrue(same_value(other.marks, "Zab"))
                for part, rows in [("module", MODULE), ("caller", CALLER), ("task", TASK)]:
                    wanted = new[part] if part in parts else rows
                    self.assertTrue(same_value(getattr(other, part), tuple(wanted)))
                wanted = Program("Zab", list(other.module), list(other.caller), list(other.task))
                self.assertEqual(str(other), str(wanted))
                self.assertEqual(other.names(), wanted.names())
                self.assertEqual(other.begun().rows(), wanted.begun().rows())
                self.assertEqual(str(program), str(some_program()))
                self.assertEqual(program.names(), ["g", "h", "kept", "z"])

    def test_none_stands_for_the_rows_that_are_there(self):
        program = some_program()
        for other in [program.changed(), program.changed(module=None, caller=None, task=None)]:
            self.assertEqual(str(other), str(program))
            self.assertIsNot(other, program)

    def test_empty_lists(self):
        program = Program("Zab", ["g = {a}"], ["x = {b}"], ["stop"])
        self.assertEqual(program.changed(module=[]).module, ())
        self.assertEqual(program.changed(module=[]).global_names(), [])
        self.assertEqual(program.changed(caller=[]).caller, ())
        self.assertEqual(program.changed(caller=[]).own_names(), [])
        self.assertEqual(program.changed(task=[]).task, ())
        self.assertEqual(str(program.changed(module=[], caller=[], task=[])), "marks Zab\nmodule\ncaller\ntask")

    def test_a_tuple_is_refused(self):
        program = some_program()
        bad_program(self, "module", -1, program.changed, module=program.module)
        bad_program(self, "caller", -1, program.changed, caller=program.caller)
        bad_program(self, "task", -1, program.changed, task=program.task)
        bad_program(self, "module", -1, program.changed, module=())
        bad_program(self, "task", -1, program.changed, task=())
        bad_program(self, "module", -1, program.changed, task=program.task, module=program.module)

    def test_other_values_are_refused(self):
        program = some_program()
        for thing in [False, True, 0, 1, "", "stop", "None", (None,)]:
            bad_program(self, "module", -1, program.changed, module=thing)
            bad_program(self, "caller", -1, program.changed, caller=thing)
            bad_program(self, "task", -1, program.changed, task=thing)
        for thing in [None, 1, "", "?"]:
            bad_program(self, "module", 0, program.changed, module=[thing])
            bad_program(self, "caller", 0, program.changed, caller=[thing])
            bad_program(self, "task", 0, program.changed, task=[thing])

    def test_raises_as_a_new_program_does(self):
        program = some_program()
        bad_program(self, "caller", 0, program.changed, module=["h = {}", "kept = {}"])
        bad_program(self, "task", 1, program.changed, module=["g = {}", "h = {}"])
        bad_program(self, "task", 1, program.changed, module=[], caller=[])
        bad_program(self, "task", 2, program.changed, task=["if a in out", "stop"])
        too_many(self, "globals", program.changed, module=[f"{word} = {{}}" for word in "ghkl"])
        too_many(self, "names", program.changed, caller=["w = {}", "x = {}"])
        too_many(self, "names", Program("a", ["g = {}"], ["w = {}"], []).changed, module=["g = {}", "h = {}", "k = {}"],
                 caller=["w = {}", "x = {}"])
        too_many(self, "rows", program.changed, module=["g = {}"] * 7, caller=3, task=3)
        too_many(self, "rows", program.changed, caller=["x = {}"] * 7)
        too_many(self, "rows", program.changed, task=["stop"] * 17)
        self.assertEqual(str(program), str(some_program()))

    def test_a_global_may_become_an_own_name(self):
        program = Program("a", ["g = {}"], [], [])
        other = program.changed(module=[], caller=["g = {a}"])
        self.assertEqual((other.global_names(), other.own_names()), ([], ["g"]))
        self.assertEqual(other.letters(), [("box", ""), ("box", "a"), ("name", "g")])
        self.assertEqual((program.global_names(), program.own_names()), (["g"], []))

    def test_lists_that_were_passed_may_be_changed(self):
        module, caller, task = ["g = {}"], ["x = g"], ["out = g"]
        given = (list(module), list(caller), list(task))
        program = some_program().changed(module=module, caller=caller, task=task)
        self.assertEqual((module, caller, task), given)
        module.append("?")
        caller.clear()
        task[0] = "stop"
        self.assertEqual(str(program), "marks Zab\nmodule\ng = {}\ncaller\nx = g\ntask\nout = g")

    def test_by_name_only(self):
        with self.assertRaises(TypeError):
            some_program().changed(["g = {}"])


if __name__ == "__main__":
    unittest.main()
