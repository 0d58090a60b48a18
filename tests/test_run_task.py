"""run_task: the section workerworlds/tasks.py of the interface."""

import unittest

from helping import raised, same_value
from workerworlds.errors import NoName
from workerworlds.programs import Program
from workerworlds.tasks import run_task


def program_of(rows, names=("g", "h"), marks="Zab"):
    return Program(marks, [f"{name} = {{}}" for name in names], [], rows)


class Checking(unittest.TestCase):

    def check(self, task, rows, item, wanted, names=("g", "h")):
        program = program_of(task, names)
        found = run_task(program, rows, item)
        self.assertTrue(same_value(found, wanted), found)
        self.assertTrue(same_value(run_task(program, rows, item), wanted))


SEPARATE = ((("g",), "a"), (("h",), "b"))
SHARED = ((("g", "h"), "ab"),)


class Done(Checking):

    def test_a_new_box(self):
        self.check([], SEPARATE, ("box", "Z"),
                   ("done", ((("g",), "a"), (("h",), "b"), (("item",), "Z"), (("out",), ""))))
        self.check(["g |= item", "item = {}", "out |= {b}"], SEPARATE, ("box", "Z"),
                   ("done", ((("g",), "Za"), (("h",), "b"), (("item",), "Z"), (("out",), "b"))))
        self.check(["item |= h"], SEPARATE, ("box", ""),
                   ("done", ((("g",), "a"), (("h",), "b"), (("item",), "b"), (("out",), ""))))

    def test_the_example(self):
        self.check(["g |= item", "out = g", "item -= {a}"], ((("g",), "b"),), ("box", "a"),
                   ("done", ((("g", "out"), "ab"), (("item",), ""))), names=("g",))

    def test_the_answer_shares(self):
        self.check(["out = g"], SEPARATE, ("box", "Z"),
                   ("done", ((("g", "out"), "a"), (("h",), "b"), (("item",), "Z"))))
        self.check(["out = item"], SEPARATE, ("box", "Z"),
                   ("done", ((("g",), "a"), (("h",), "b"), (("item", "out"), "Z"))))
        self.check(["out = h"], SHARED, ("box", "Z"), ("done", ((("g", "h", "out"), "ab"), (("item",), "Z"))))
        self.check(["g = item", "out = g"], SHARED, ("box", "Z"),
                   ("done", ((("g", "item", "out"), "Z"), (("h",), "ab"))))
        self.check(["g = out"], SHARED, ("box", "Z"), ("done", ((("g", "out"), ""), (("h",), "ab"), (("item",), "Z"))))

    def test_the_box_that_was_passed_is_item_also_if_the_task_binds_it_again(self):
        self.check(["item = g", "item |= {Z}"], SEPARATE, ("box", "b"),
                   ("done", ((("g",), "Za"), (("h",), "b"), (("item",), "b"), (("out",), ""))))
        self.check(["h = item", "item = {Z}", "out = item"], SEPARATE, ("box", "b"),
                   ("done", ((("g",), "a"), (("h", "item"), "b"), (("out",), "Z"))))
        self.check(["g = item", "item = out", "out = {}"], SEPARATE, ("box", "b"),
                   ("done", ((("g", "item"), "b"), (("h",), "b"), (("out",), ""))))

    def test_the_box_of_a_name(self):
        self.check(["item |= {Z}"], SEPARATE, ("name", "g"),
                   ("done", ((("g", "item"), "Za"), (("h",), "b"), (("out",), ""))))
        self.check(["g = {Z}", "out = item"], SEPARATE, ("name", "g"),
                   ("done", ((("g",), "Z"), (("h",), "b"), (("item", "out"), "a"))))
        self.check(["g = h"], SEPARATE, ("name", "h"), ("done", ((("g", "h", "item"), "b"), (("out",), ""))))
        self.check(["if item is h", "out = g", "end"], SHARED, ("name", "g"),
                   ("done", ((("g", "h", "item", "out"), "ab"),)))

    def test_names_that_are_no_globals(self):
        rows = ((("g", "x"), "a"), (("h",), "b"), (("y",), "Z"))
        self.check(["item |= {b}", "out = g"], rows, ("name", "x"),
                   ("done", ((("g", "item", "out", "x"), "ab"), (("h",), "b"), (("y",), "Z"))))
        self.check(["g = item"], rows, ("name", "y"),
                   ("done", ((("g", "item", "y"), "Z"), (("h",), "b"), (("out",), ""), (("x",), "a"))))
        self.check(["x |= {b}", "out = x"], ((("w", "x"), "a"),), ("name", "w"),
                   ("done", ((("item", "out", "w", "x"), "ab"),)), names=("x",))

    def test_names_that_no_program_may_choose(self):
        for name in ["sent x", "answer", "given", "from", "if", "task", " ", "abcdefghi", "abcdefghijklm", "a b", "  "]:
            rows = tuple(sorted([(("g",), "a"), (("h",), "b"), ((name,), "Z")]))
            both = tuple(sorted(["item", name]))
            wanted = tuple(sorted([(("g",), "a"), (("h",), "Zb"), (both, "Z"), (("out",), "")]))
            self.check(["h |= item"], rows, ("name", name), ("done", wanted))
            rows = tuple(sorted([(tuple(sorted(["g", name])), "a"), (("h",), "b")]))
            wanted = tuple(sorted([(tuple(sorted(["g", "item", "out", name])), "Za"), (("h",), "b")]))
            self.check(["item |= {Z}", "out = g"], rows, ("name", name), ("done", wanted))

    def test_other_marks_than_those_of_the_program(self):
        rows = ((("g",), "Qx"), (("h", "x"), "Yz"))
        self.check(["g |= item", "item -= {a}", "out = g & h"], rows, ("name", "x"),
                   ("done", ((("g",), "QYxz"), (("h", "item", "x"), "Yz"), (("out",), "Yz"))))

    def test_without_globals(self):
        self.check(["out = item"], (), ("box", "ab"), ("done", ((("item", "out"), "ab"),)), names=())
        self.check([], (), ("box", ""), ("done", ((("item",), ""), (("out",), ""))), names=())
        self.check([], ((("x",), "a"),), ("name", "x"), ("done", ((("item", "x"), "a"), (("out",), ""))), names=())

    def test_stop(self):
        self.check(["out = g", "stop", "fail {a}"], SHARED, ("box", "a"),
                   ("done", ((("g", "h", "out"), "ab"), (("item",), "a"))))


class Failed(Checking):

    def test_what_is_told_and_the_cause(self):
        behind = ((("g",), "a"), (("h",), "b"), (("item",), "Z"))
        self.check(["fail g"], SEPARATE, ("box", "Z"), ("failed", behind, "a", None))
        self.check(["fail out"], SEPARATE, ("box", "Z"), ("failed", behind, "", None))
        self.check(["fail g from item"], SEPARATE, ("box", "Z"), ("failed", behind, "a", "Z"))
        self.check(["fail {Zab} from {}"], SEPARATE, ("box", "Z"), ("failed", behind, "Zab", ""))

    def test_what_was_done_before_stays(self):
        self.check(["g |= item", "h = item", "item |= {a}", "item = {b}", "fail item", "g = {}"],
                   SEPARATE, ("box", "Z"),
                   ("failed", ((("g",), "Za"), (("h", "item"), "Za")), "b", None))
        self.check(["item |= {Z}", "g = {b}", "out = h", "out |= {a}", "fail out from g"], SEPARATE, ("name", "g"),
                   ("failed", ((("g",), "b"), (("h",), "ab"), (("item",), "Za")), "ab", "b"))

    def test_there_is_no_answer(self):
        self.check(["out = g", "fail {}"], SHARED, ("box", "a"),
                   ("failed", ((("g", "h"), "ab"), (("item",), "a")), "", None))
        self.check(["h = out", "fail {}"], SHARED, ("name", "g"),
                   ("failed", ((("g", "item"), "ab"), (("h",), "")), "", None))

    def test_the_box_that_was_passed_is_item(self):
        self.check(["item = g", "fail item"], SEPARATE, ("box", "Z"),
                   ("failed", ((("g",), "a"), (("h",), "b"), (("item",), "Z")), "a", None))
        self.check(["g = {}", "fail g"], SHARED, ("name", "g"),
                   ("failed", ((("g",), ""), (("h", "item"), "ab")), "", None))
        rows = ((("g",), "a"), (("h", "sent x"), "b"))
        self.check(["h |= {Z}", "fail item from g"], rows, ("name", "sent x"),
                   ("failed", ((("g",), "a"), (("h", "item", "sent x"), "Zb")), "Zb", "a"))

    def test_in_a_block(self):
        rows = ["if a in item", "fail {a} from h", "end", "out = h"]
        self.check(rows, SEPARATE, ("box", "a"), ("failed", ((("g",), "a"), (("h",), "b"), (("item",), "a")), "a", "b"))
        self.check(rows, SEPARATE, ("box", "b"), ("done", ((("g",), "a"), (("h", "out"), "b"), (("item",), "b"))))


class Calls(unittest.TestCase):

    def test_by_name(self):
        program = program_of(["out = g"], ("g",))
        wanted = ("done", ((("g", "out"), "a"), (("item",), "b")))
        self.assertEqual(run_task(item=("box", "b"), rows=((("g",), "a"),), program=program), wanted)
        self.assertEqual(run_task(program, ((("g",), "a"),), item=("box", "b")), wanted)

    def test_each_call_begins_with_its_rows(self):
        program = program_of(["g |= item", "item |= {Z}", "out = g"], ("g",))
        rows = ((("g",), "a"),)
        for _ in range(2):
            self.assertEqual(run_task(program, rows, ("box", "b")), ("done", ((("g", "out"), "ab"), (("item",), "Zb"))))
            self.assertEqual(run_task(program, rows, ("box", "")), ("done", ((("g", "out"), "a"), (("item",), "Z"))))
        self.assertEqual(program.begun().rows(), ((("g",), ""),))
        self.assertEqual(rows, ((("g",), "a"),))

    def test_one_call_behind_another(self):
        program = program_of(["g ^= item", "h = g", "out = item"])
        found = run_task(program, SEPARATE, ("box", "Z"))
        self.assertEqual(found, ("done", ((("g", "h"), "Za"), (("item", "out"), "Z"))))
        rows = tuple((names, contents) for names, contents in found[1] if "item" not in names)
        self.assertEqual(run_task(program, rows, ("name", "h")),
                         ("done", ((("g", "h", "item", "out"), ""),)))

    def test_a_global_that_the_rows_do_not_bind(self):
        raised(self, NoName, {"name": "g"}, run_task, program_of([]), ((("h",), ""),), ("box", ""))


if __name__ == "__main__":
    unittest.main()
