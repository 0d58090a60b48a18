"""Task: point 15 and the section workerworlds/tasks.py of the interface."""

import itertools
import unittest

from helping import raised, same_value
from workerworlds import tasks
from workerworlds.boxes import Box
from workerworlds.errors import NoName, TaskFailed
from workerworlds.programs import Program
from workerworlds.tasks import Task
from workerworlds.worlds import World


def task_of(rows, names=("g", "h")):
    return Task(Program("Zab", [f"{name} = {{}}" for name in names], [], rows))


def failed(test, told, cause, call, *passed, **named):
    raised(test, TaskFailed, {"at": -1, "told": told, "cause": cause}, call, *passed, **named)


class Interface(unittest.TestCase):

    def test_what_the_module_has(self):
        self.assertEqual(Task.__module__, "workerworlds.tasks")
        self.assertIn("__call__", Task.__dict__)
        self.assertEqual(tasks.run_task.__module__, "workerworlds.tasks")

    def test_by_name(self):
        task = Task(program=Program("a", ["g = {}"], [], ["g |= item", "out = g"]))
        world = World.of(g="")
        self.assertIs(task(world=world, box=Box("a")), world["g"])
        self.assertIs(task(box=Box("a"), world=world), world["g"])
        self.assertIs(task(world, box=Box("a")), world["g"])


class Answers(unittest.TestCase):

    def test_the_answer_is_the_box_of_out_at_the_end(self):
        world, box = World.of(g="a", h="b"), Box("Z")
        self.assertIs(task_of(["out = g"])(world, box), world["g"])
        self.assertIs(task_of(["out = h", "out = g"])(world, box), world["g"])
        self.assertIs(task_of(["out = item"])(world, box), box)
        self.assertIs(task_of(["out = item", "item = g"])(world, box), box)
        self.assertIs(task_of(["item = g", "out = item"])(world, box), world["g"])
        self.assertEqual((world.rows(), str(box)), (((("g",), "a"), (("h",), "b")), "Z"))

    def test_out_is_a_new_empty_box_first(self):
        task = task_of([])
        world, box = World.of(g="a", h="b"), Box("Z")
        one, other = task(world, box), task(world, box)
        self.assertIs(one.__class__, Box)
        self.assertEqual((str(one), str(other)), ("", ""))
        self.assertIsNot(one, other)
        one.become("ab")
        self.assertEqual((str(other), str(task(world, box))), ("", ""))
        self.assertTrue(all(one is not held for held in (box, world["g"], world["h"])))

    def test_out_is_changed_in_place(self):
        world = World.of(g="a", h="b")
        self.assertEqual(str(task_of(["out |= g", "out |= item"])(world, Box("Z"))), "Za")
        self.assertEqual(str(task_of(["out ^= {ab}", "out -= g"])(world, Box())), "b")
        task_of(["out |= {a}", "g = out", "out |= {b}"])(world, Box())
        self.assertEqual(str(world), "g:ab h:b")

    def test_the_answer_is_the_very_box_that_a_global_has_then(self):
        world = World.of(g="a", h="b")
        answer = task_of(["g = g | item", "out = g"])(world, Box("Z"))
        self.assertIs(world["g"], answer)
        answer.become("")
        self.assertEqual(str(world), "g: h:b")

    def test_a_new_box_of_two_shares_with_none(self):
        world, box = World.of(g="ab", h="b"), Box("ab")
        for sign, contents in [("|", "ab"), ("&", "ab"), ("-", ""), ("^", "")]:
            answer = task_of([f"out = g {sign} item"])(world, box)
            self.assertEqual(str(answer), contents)
            self.assertTrue(all(answer is not held for held in (box, world["g"], world["h"])))

    def test_a_set_is_a_new_box_each_time(self):
        task = task_of(["out = {ab}"])
        world = World.of(g="", h="")
        one, other = task(world, Box()), task(world, Box())
        self.assertIsNot(one, other)
        one.become("")
        self.assertEqual((str(other), str(task(world, Box()))), ("ab", "ab"))
        task_of(["g = {a}", "h = {a}", "g |= {b}"])(world, Box())
        self.assertEqual(str(world), "g:ab h:a")


class Worlds(unittest.TestCase):

    def test_boxes_are_changed_in_place(self):
        for sign, contents in [("|=", "Zab"), ("&=", "a"), ("-=", "Z"), ("^=", "Zb")]:
            for term in ["h", "{ab}", "item"]:
                world = World.of(g="Za", h="ab")
                held, box = world["g"], Box("ab")
                task_of([f"g {sign} {term}"])(world, box)
                self.assertIs(world["g"], held)
                self.assertEqual((str(held), str(world["h"]), str(box)), (contents, "ab", "ab"))

    def test_the_box_that_was_passed_is_changed_in_place(self):
        box = Box("Za")
        world = World.of(g="b", h="")
        task_of(["item |= g", "item -= {a}"])(world, box)
        self.assertEqual((str(box), world.rows()), ("Zb", ((("g",), "b"), (("h",), ""))))

    def test_globals_are_bound_again_in_the_world(self):
        world, box = World.of(g="a", h="b"), Box("Z")
        first, second = world["g"], world["h"]
        task_of(["g = h"])(world, box)
        self.assertIs(world["g"], second)
        self.assertEqual((str(first), world.names()), ("a", ["g", "h"]))
        task_of(["h = item"])(world, box)
        self.assertIs(world["h"], box)
        self.assertIs(world["g"], second)
        task_of(["g = {ab}", "h = g"])(world, box)
        self.assertIs(world["g"], world["h"])
        self.assertEqual((str(world), str(second), str(box)), ("g=h:ab", "b", "Z"))

    def test_names_that_are_exchanged(self):
        world = World.of(g="a", h="b")
        first, second = world["g"], world["h"]
        task_of(["out = g", "g = h", "h = out"])(world, Box())
        self.assertIs(world["g"], second)
        self.assertIs(world["h"], first)

    def test_a_global_may_keep_the_item(self):
        world = World.of(g="a", h="b")
        task, box = task_of(["h = item", "h |= g"]), Box("Z")
        task(world, box)
        self.assertIs(world["h"], box)
        self.assertEqual(str(box), "Za")
        world["g"].become("b")
        other = Box("")
        task(world, other)
        self.assertEqual((str(box), str(other)), ("Za", "b"))

    def test_other_names_are_not_touched(self):
        world = World.of(g="a", h="b", x="Z", answer="a", given="", kept="ab")
        world["sent x"] = world["g"]
        held = {name: world[name] for name in world.names()}
        task_of(["g |= {Z}", "h = item", "h |= {a}"])(world, Box())
        self.assertEqual(world.names(), sorted(held))
        self.assertTrue(all(world[name] is box for name, box in held.items() if name != "h"))
        self.assertEqual(str(world["sent x"]), "Za")

    def test_item_and_out_of_the_world_are_not_touched(self):
        for rows in [[], ["item = g", "out = h"], ["item |= {a}", "out |= {b}"], ["g = item", "h = out"],
                     ["out = item", "item = {ab}", "fail out"]]:
            world = World.of(g="a", h="b", item="Z", out="Zb")
            item, out, box = world["item"], world["out"], Box("b")
            task = task_of(rows)
            if rows[-1:] == ["fail out"]:
                failed(self, "b", None, task, world, box)
            else:
                self.assertIsNot(task(world, box), out)
            self.assertIs(world["item"], item)
            self.assertIs(world["out"], out)
            self.assertEqual((str(item), str(out), len(world)), ("Z", "Zb", 4))

    def test_a_world_without_item_and_out_has_none_behind(self):
        world = World.of(g="a", h="b")
        task_of(["item = g", "out = h"])(world, Box())
        self.assertEqual(world.names(), ["g", "h"])
        failed(self, "", None, task_of(["fail {}"]), world, Box())
        self.assertEqual(world.names(), ["g", "h"])

    def test_item_and_out_of_the_world_may_share_with_globals(self):
        world = World.of(g="a", h="b")
        world["item"] = world["g"]
        world["out"] = world["h"]
        answer = task_of(["g |= {Z}", "out |= {a}", "item |= {b}"])(world, Box())
        self.assertEqual((str(world), str(answer)), ("g=item:Za h=out:b", "a"))

    def test_one_box_in_several_places(self):
        world = World.of(g="a")
        world["h"] = world["g"]
        self.assertIs(task_of(["item |= {b}", "out = h"])(world, world["g"]), world["g"])
        self.assertEqual(str(world), "g=h:ab")
        task_of(["g -= item"])(world, world["h"])
        self.assertEqual(str(world), "g=h:")
        task_of(["g = item | {a}"])(world, world["h"])
        self.assertEqual(str(world), "g:a h:")

    def test_a_box_and_itself(self):
        for sign, contents in [("|=", "ab"), ("&=", "ab"), ("-=", ""), ("^=", "")]:
            box = Box("ab")
            task_of([f"item {sign} item"])(World.of(g="", h=""), box)
            self.assertEqual(str(box), contents)

    def test_boxes_may_hold_marks_of_no_program(self):
        world, box = World.of(g="Qx", h="z"), Box("Yab")
        answer = task_of(["g |= item", "h ^= g", "out = h - {a}", "if g == h", "g = {}", "end"])(world, box)
        self.assertEqual((str(answer), str(world), str(box)), ("QYbxz", "g:QYabx h:QYabxz", "Yab"))
        failed(self, "QYabx", "Q", task_of(["fail g from h"]), World.of(g="QYabx", h="Q"), Box())

    def test_a_program_without_globals(self):
        task = task_of(["out = item", "item |= {a}"], names=())
        world, box = World(), Box("b")
        self.assertIs(task(world, box), box)
        self.assertEqual((str(box), len(world)), ("ab", 0))
        self.assertIs(task(World.of(g="a"), box), box)


class Conditions(unittest.TestCase):

    def runs(self, condition, g, h, item, both=False):
        """Whether the first half of a block is run, by a block with and one without `else`; item may be g itself."""
        found = []
        for rows in [[f"if {condition}", "out = {a}", "else", "out = {b}", "end"],
                     [f"if {condition}", "out = {a}", "end"],
                     [f"if {condition}", "else", "out = {b}", "end"],
                     [f"if not {condition}", "out = {b}", "else", "out = {a}", "end"],
                     [f"if not {condition}", "out = {b}", "end"],
                     [f"if not {condition}", "else", "out = {a}", "end"]]:
            world = World.of(g=g, h=h)
            box = world["g"] if both else Box(item)
            wanted = world.rows()
            found.append(str(task_of(rows)(world, box)))
            self.assertEqual(world.rows(), wanted)
        self.assertIn(found, [["a", "a", "", "a", "", "a"], ["b", "", "b", "b", "b", ""]])
        return found[0] == "a"

    def test_a_mark_in_a_term(self):
        for mark, contents in itertools.product("Zab", ["", "Z", "a", "b", "Za", "Zb", "ab", "Zab"]):
            held = mark in contents
            self.assertIs(self.runs(f"{mark} in g", contents, "Zab", ""), held)
            self.assertIs(self.runs(f"{mark} in item", "Zab", "", contents), held)
            self.assertIs(self.runs(f"{mark} in {{{contents}}}", "Zab", "", "Zab"), held)

    def test_the_same_box(self):
        self.assertIs(self.runs("g is h", "a", "a", "a"), False)
        self.assertIs(self.runs("g is g", "a", "a", "a"), True)
        self.assertIs(self.runs("item is g", "a", "a", "a"), False)
        self.assertIs(self.runs("item is g", "a", "a", "a", both=True), True)
        self.assertIs(self.runs("g is item", "", "", "", both=True), True)
        self.assertIs(self.runs("out is out", "", "", ""), True)
        self.assertIs(self.runs("out is h", "", "", ""), False)

    def test_the_same_contents(self):
        for one, other in itertools.product(["", "Z", "a", "Za", "ab", "Zab"], repeat=2):
            self.assertIs(self.runs("g == h", one, other, "b"), one == other)
            self.assertIs(self.runs(f"g == {{{other}}}", one, "b", "b"), one == other)
            self.assertIs(self.runs(f"{{{one}}} == item", "b", "b", other), one == other)
            self.assertIs(self.runs(f"{{{one}}} == {{{other}}}", "b", "b", "b"), one == other)
        self.assertIs(self.runs("item == g", "a", "", "", both=True), True)

    def test_marks_that_are_all_in_another_one(self):
        for one, other in itertools.product(["", "Z", "a", "b", "Za", "Zb", "ab", "Zab"], repeat=2):
            held = set(one) <= set(other)
            self.assertIs(self.runs("g <= h", one, other, "b"), held)
            self.assertIs(self.runs(f"item <= {{{other}}}", "b", "b", one), held)
            self.assertIs(self.runs(f"{{{one}}} <= g", other, "b", "b"), held)
            self.assertIs(self.runs(f"{{{one}}} <= {{{other}}}", "b", "b", "b"), held)

    def test_a_word_that_is_a_mark(self):
        rows = ["if a in a", "out = {a}", "end", "if a in b", "out = {b}", "end"]
        program = Program("ab", ["a = {b}", "b = {a}"], [], rows)
        self.assertEqual(str(Task(program)(program.begun(), Box())), "b")

    def test_a_condition_sees_what_was_done_before(self):
        rows = ["g |= item", "if a in g", "h = g", "end", "if h is g", "out = {a}", "end", "if g == {ab}",
                "out |= {b}", "end"]
        for item, wanted in [("", ""), ("a", "a"), ("b", ""), ("ab", "ab")]:
            self.assertEqual(str(task_of(rows)(World.of(g="", h=""), Box(item))), wanted)


class Blocks(unittest.TestCase):

    def test_each_half_has_its_own_rows(self):
        rows = ["g |= {Z}", "if a in item", "g |= {a}", "h |= {a}", "else", "g |= {b}", "h |= {b}", "end", "h |= {Z}"]
        for item, wanted in [("a", "g:Za h:Za"), ("", "g:Zb h:Zb"), ("b", "g:Zb h:Zb")]:
            world = World.of(g="", h="")
            task_of(rows)(world, Box(item))
            self.assertEqual(str(world), wanted)

    def test_blocks_in_both_halves(self):
        rows = ["if a in item", "if b in item", "out = {ab}", "else", "out = {a}", "end", "else",
                "if b in item", "out = {b}", "else", "out = {Z}", "end", "end"]
        for item, wanted in [("ab", "ab"), ("a", "a"), ("b", "b"), ("", "Z")]:
            self.assertEqual(str(task_of(rows)(World.of(g="", h=""), Box(item))), wanted)

    def test_rows_between_and_behind_inner_blocks(self):
        rows = ["if a in item", "g |= {a}", "if b in item", "h |= {a}", "end", "g |= {b}", "else", "h |= {b}",
                "if Z in item", "g |= {Z}", "end", "h |= {Z}", "end", "out = g"]
        for item, wanted in [
                ("ab", "g:ab h:a"), ("a", "g:ab h:"), ("Zb", "g:Z h:Zb"), ("b", "g: h:Zb"), ("", "g: h:Zb")]:
            world = World.of(g="", h="")
            self.assertIs(task_of(rows)(world, Box(item)), world["g"])
            self.assertEqual(str(world), wanted)

    def test_empty_blocks(self):
        for rows in [["if a in item", "end"], ["if a in item", "else", "end"], ["if not a in item", "end"],
                     ["if a in item", "if a in item", "end", "else", "if a in item", "else", "end", "end"]]:
            for item in ["", "a"]:
                world = World.of(g="", h="")
                answer = task_of(["g |= {a}", *rows, "h |= {b}", "out |= {Z}"])(world, Box(item))
                self.assertEqual((str(world), str(answer)), ("g:a h:b", "Z"))

    def test_deep_blocks(self):
        rows = ["if a in item"] * 7 + ["out = {a}"] + ["end"] * 7 + ["out |= {b}"]
        self.assertEqual(str(task_of(rows)(World.of(g="", h=""), Box("a"))), "ab")
        self.assertEqual(str(task_of(rows)(World.of(g="", h=""), Box("b"))), "b")

    def test_many_blocks(self):
        rows = ["if a in item", "item -= {a}", "else", "item |= {a}", "end"] * 3
        for item, wanted in [("a", ""), ("", "a"), ("Zab", "Zb"), ("b", "ab")]:
            box = Box(item)
            task_of(rows)(World.of(g="", h=""), box)
            self.assertEqual(str(box), wanted)

    def test_the_condition_is_asked_once(self):
        rows = ["if a in item", "item -= {a}", "out |= {a}", "else", "item |= {a}", "out |= {b}", "end"]
        self.assertEqual(str(task_of(rows)(World.of(g="", h=""), Box("a"))), "a")
        self.assertEqual(str(task_of(rows)(World.of(g="", h=""), Box(""))), "b")


class Stops(unittest.TestCase):

    def test_rows_behind_stop_are_not_run(self):
        world = World.of(g="", h="")
        answer = task_of(["out |= {a}", "stop", "out |= {b}", "g = item", "fail {Z}"])(world, Box("Z"))
        self.assertEqual((str(answer), str(world)), ("a", "g: h:"))
        self.assertEqual(str(task_of(["stop"])(world, Box("a"))), "")

    def test_stop_in_blocks(self):
        rows = ["if a in item", "if b in item", "stop", "end", "out |= {a}", "else", "g |= {Z}", "stop", "end",
                "out |= {b}"]
        for item, wanted, told in [("ab", "", "g: h:"), ("a", "ab", "g: h:"), ("b", "", "g:Z h:"), ("", "", "g:Z h:")]:
            world = World.of(g="", h="")
            self.assertEqual(str(task_of(rows)(world, Box(item))), wanted)
            self.assertEqual(str(world), told)

    def test_the_answer_behind_stop(self):
        world = World.of(g="a", h="")
        self.assertIs(task_of(["out = g", "stop", "out = h"])(world, Box()), world["g"])


class Failures(unittest.TestCase):

    def test_what_is_told(self):
        for term, told in [("g", "a"), ("h", "Zb"), ("item", "ab"), ("out", ""), ("{}", ""), ("{Za}", "Za")]:
            failed(self, told, None, task_of([f"fail {term}"]), World.of(g="a", h="Zb"), Box("ab"))
            for cause, meant in [("g", "a"), ("h", "Zb"), ("item", "ab"), ("out", ""), ("{}", ""), ("{b}", "b")]:
                failed(self, told, meant, task_of([f"fail {term} from {cause}"]), World.of(g="a", h="Zb"), Box("ab"))

    def test_what_is_told_as_it_is_then(self):
        rows = ["g |= item", "out = g", "fail g from out", "g = {}"]
        failed(self, "ab", "ab", task_of(rows), World.of(g="a", h=""), Box("b"))

    def test_what_was_done_before_stays(self):
        world, box = World.of(g="a", h="b"), Box("Z")
        second = world["h"]
        failed(self, "a", "Z", task_of(["g |= item", "item |= {b}", "g = h", "h = item", "h -= {b}",
                                        "fail {a} from h", "g = {Z}", "h |= {a}"]), world, box)
        self.assertIs(world["g"], second)
        self.assertIs(world["h"], box)
        self.assertEqual(str(world), "g:b h:Z")

    def test_failures_in_blocks(self):
        rows = ["if a in item", "g |= {a}", "fail item", "else", "if b in item", "fail {} from {b}", "end", "end",
                "out = g"]
        task, world = task_of(rows), World.of(g="", h="")
        failed(self, "", "b", task, world, Box("b"))
        self.assertIs(task(world, Box("")), world["g"])
        self.assertEqual(str(world), "g: h:")
        failed(self, "ab", None, task, world, Box("ab"))
        self.assertEqual(str(world), "g:a h:")

    def test_behind_stop_there_is_no_failure(self):
        self.assertEqual(str(task_of(["stop", "fail {a}"])(World.of(g="", h=""), Box())), "")

    def test_a_run_behind_a_failure(self):
        task, world = task_of(["if g == {}", "g |= {a}", "fail g", "end", "out = g"]), World.of(g="", h="")
        failed(self, "a", None, task, world, Box())
        self.assertIs(task(world, Box()), world["g"])


class Missing(unittest.TestCase):

    def test_the_first_global_that_is_not_bound(self):
        task = task_of(["h = {}", "g |= {a}", "item |= {a}"], names=("h", "g", "f"))
        for bound in itertools.product([True, False], repeat=3):
            names = [name for name, held in zip("fgh", bound) if held]
            missing = [name for name, held in zip("fgh", bound) if not held]
            world, box = World.of(**{name: "Z" for name in names + ["x", "item", "out"]}), Box("b")
            held = {name: world[name] for name in world.names()}
            rows = world.rows()
            if missing:
                raised(self, NoName, {"name": missing[0]}, task, world, box)
                self.assertEqual((world.rows(), str(box)), (rows, "b"))
                self.assertTrue(all(world[name] is kept for name, kept in held.items()))
            else:
                task(world, box)
                self.assertEqual(str(box), "ab")

    def test_globals_that_the_task_does_not_use_or_binds_itself(self):
        raised(self, NoName, {"name": "g"}, task_of(["out = item"]), World.of(h=""), Box())
        raised(self, NoName, {"name": "h"}, task_of(["h = {}", "g = h"]), World.of(g=""), Box())
        raised(self, NoName, {"name": "g"}, task_of([]), World(), Box())

    def test_also_when_the_task_fails_at_once(self):
        raised(self, NoName, {"name": "g"}, task_of(["fail {a}"]), World.of(h=""), Box())

    def test_own_names_of_the_caller_need_not_be_bound(self):
        task = Task(Program("a", ["g = {}"], ["x = g"], ["out = g"]))
        world = World.of(g="a")
        self.assertIs(task(world, Box()), world["g"])
        raised(self, NoName, {"name": "g"}, task, World.of(x="a"), Box())

    def test_a_run_behind_a_missing_name(self):
        task, world = task_of(["out = g"]), World.of(g="a")
        raised(self, NoName, {"name": "h"}, task, world, Box())
        world["h"] = Box()
        self.assertIs(task(world, Box()), world["g"])


class Runs(unittest.TestCase):

    ROWS = ["if a in g", "h |= item", "out = h", "else", "g |= item", "out = g", "end"]

    def test_several_runs_in_one_world(self):
        task, world = task_of(self.ROWS), World.of(g="", h="")
        seen = [(task(world, Box(item)), item) for item in ["b", "ab", "Z", "b"]]
        self.assertEqual([str(answer) for answer, _ in seen], ["ab", "ab", "Zb", "Zb"])
        self.assertEqual([answer is world["g"] for answer, _ in seen], [True, True, False, False])
        self.assertEqual(str(world), "g:ab h:Zb")

    def test_one_task_in_several_worlds(self):
        task = task_of(self.ROWS)
        one, other = World.of(g="a", h=""), World.of(g="", h="Z")
        box = Box("b")
        self.assertIs(task(one, box), one["h"])
        self.assertIs(task(other, box), other["g"])
        self.assertIs(task(one, Box("Z")), one["h"])
        self.assertEqual((str(one), str(other), str(box)), ("g:a h:Zb", "g:b h:Z", "b"))

    def test_two_tasks_of_one_program(self):
        program = Program("ab", ["g = {}"], [], ["g |= item", "out = g"])
        world = program.begun()
        one, other = Task(program), Task(program)
        self.assertIs(one(world, Box("a")), other(world, Box("b")))
        self.assertEqual(str(world), "g:ab")
        self.assertEqual(program.begun().rows(), ((("g",), ""),))

    def test_a_task_does_not_change_its_program(self):
        program = Program("ab", ["g = {}"], ["x = {a}"], ["g = item", "g |= {b}", "out = {a}"])
        text = str(program)
        Task(program)(program.begun(), Box())
        self.assertEqual(str(program), text)
        self.assertEqual(program.begun().rows(), ((("g",), ""), (("x",), "a")))

    def test_an_answer_may_be_passed_on(self):
        task, world = task_of(["out |= item", "item |= {a}", "g = item"]), World.of(g="", h="")
        first = task(world, Box("b"))
        second = task(world, first)
        self.assertIs(world["g"], first)
        self.assertEqual((str(first), str(second)), ("ab", "b"))

    def test_a_task_of_sixteen_rows(self):
        self.assertEqual(str(task_of(["item ^= {a}"] * 15 + ["out = item"])(World.of(g="", h=""), Box("b"))), "ab")

    def test_nothing_is_kept_between_runs(self):
        task, world = task_of(["if a in out", "fail {a}", "end", "out |= {a}", "item = out"]), World.of(g="", h="")
        for _ in range(3):
            self.assertTrue(same_value(str(task(world, Box())), "a"))


if __name__ == "__main__":
    unittest.main()
