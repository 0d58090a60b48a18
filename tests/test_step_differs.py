"""Walk.after: when a step differs, and when it ends (29), each condition alone beside its nearest neighbours."""

import unittest

from helping import same_value
from walked import ModelWalk, letter, watched
from workerworlds.programs import Program
from workerworlds.scenes import Walk


class Steps(unittest.TestCase):

    def stepped(self, program, way, path, **settings):
        """What the last step of a path gives, and which conditions hold in the words of the document.

        A path tells letters and moves, and ahead of the last ones the box that is watched behind the step.
        """
        walk, model = Walk(program, way, **settings), ModelWalk(program, way, **settings)
        scene = walk.first
        for text, move, box in path[:-1]:
            kind, scenes = walk.after(scene, letter(text), move)
            self.assertEqual(kind, "scenes")
            scene, = [found for found in scenes if watched(found) == box]
        text, move = path[-1]
        self.assertIn(move, walk.moves(scene))
        found = walk.after(scene, letter(text), move)
        self.assertTrue(same_value(found, model.after(scene, letter(text), move)))
        return found, model.conditions(scene, letter(text), move)[0]

    def alone(self, number, program, way, *path, **settings):
        found, numbers = self.stepped(program, way, path, **settings)
        self.assertEqual(numbers, [number])
        self.assertTrue(same_value(found, ("differs",)))

    def not_so(self, program, way, *path, **settings):
        """The step leads to scenes."""
        found, numbers = self.stepped(program, way, path, **settings)
        self.assertEqual(numbers, [])
        self.assertEqual((found[0], len(found)), ("scenes", 2))

    def ends(self, program, way, *path, **settings):
        found, numbers = self.stepped(program, way, path, **settings)
        self.assertEqual(numbers, [])
        self.assertTrue(same_value(found, ("ends",)))


class ItemStays(Steps):

    PROGRAM = Program("Zab", [], ["x = {Z}", "y = {a}"], [])

    def test_alone(self):
        for seen in ("all", "answers"):
            for way in ("copied", "anew"):
                self.alone(1, self.PROGRAM, way, (".x", "ours"), seen=seen)
                self.alone(1, self.PROGRAM, way, ("", "ours", None), (".x", "on"), seen=seen, chunk=2)
                self.alone(1, self.PROGRAM, way, ("", "away", None), (".x", "ours"), seen=seen)

    def test_neighbours(self):
        for seen in ("all", "answers"):
            self.not_so(self.PROGRAM, "copied", (".y", "ours"), seen=seen)
            self.not_so(self.PROGRAM, "copied", ("a", "ours"), seen=seen)
            self.not_so(self.PROGRAM, "copied", (".x", "away"), seen=seen)
            self.not_so(self.PROGRAM, "copied", ("", "away", None), (".x", "on"), seen=seen, chunk=2)

    def test_tasks_that_fail(self):
        program = Program("Zab", [], ["x = {Z}"], ["fail {}"])
        self.alone(1, program, "copied", (".x", "ours"))
        self.ends(program, "copied", (".x", "away"))
        self.ends(program, "copied", ("", "ours"))

    def test_the_box_in_the_begun_world(self):
        loses = Program("Zab", [], ["x = {Z}"], ["item -= {Z}"])
        self.alone(1, loses, "copied", (".x", "away", None), (".x", "ours"), seen="answers")
        gains = Program("Zab", [], ["x = {}"], ["item |= {Z}"])
        self.not_so(gains, "copied", (".x", "away", None), (".x", "ours"), seen="answers")
        self.not_so(gains, "copied", (".x", "ours", None), (".x", "on"), seen="answers", chunk=None)


class FailuresDiffer(Steps):

    def program(self, *task):
        return Program("Zab", ["g = {}"], ["g = {a}"], list(task))

    def test_exactly_one_fails(self):
        for seen in ("all", "answers"):
            mine = self.program("if a in g", "fail {}", "end")
            self.alone(2, mine, "anew", ("", "ours"), seen=seen)
            self.ends(mine, "anew", ("", "away"), seen=seen)
            self.ends(mine, "copied", ("", "ours"), seen=seen)
            self.ends(mine, "anew", ("", "ours"), seen=seen, begin=["g"])
            theirs = self.program("if not a in g", "fail {}", "end")
            self.alone(2, theirs, "anew", ("", "ours"), seen=seen)
            self.not_so(theirs, "anew", ("", "away"), seen=seen)
            self.not_so(theirs, "copied", ("", "ours"), seen=seen)

    def test_unlike_told_or_cause(self):
        cause = self.program("if a in g", "fail {}", "end", "fail {} from {}")
        for program in [self.program("fail g"), self.program("fail {} from g"), self.program("fail g from g"), cause]:
            for seen in ("all", "answers"):
                self.alone(2, program, "anew", ("", "ours"), seen=seen)
                self.ends(program, "anew", ("", "away"), seen=seen)
                self.ends(program, "copied", ("", "ours"), seen=seen)

    def test_bound_marks(self):
        for row in ["fail {Z}", "fail {} from {Z}", "fail {Z} from {Z}", "fail {Za} from {a}"]:
            for seen in ("all", "answers"):
                self.alone(2, self.program(row), "copied", ("", "ours"), seen=seen)
                self.ends(self.program(row), "copied", ("", "away"), seen=seen)
        for row in ["fail {}", "fail {a}", "fail {} from {}", "fail {ab} from {b}"]:
            self.ends(self.program(row), "anew", ("", "ours"))

    def test_a_later_item_of_a_chunk(self):
        program = self.program("if b in item", "fail g", "end")
        self.alone(2, program, "anew", ("", "ours", None), ("b", "on"), chunk=2)
        self.ends(program, "anew", ("", "away", None), ("b", "on"), chunk=2)
        self.not_so(program, "anew", ("", "ours", None), ("a", "on"), chunk=2)


class AnswersDiffer(Steps):

    def program(self, *task):
        return Program("Zab", ["g = {}"], ["g = {a}"], list(task))

    def test_unlike(self):
        program = self.program("out = g")
        for seen in ("all", "answers"):
            self.alone(3, program, "anew", ("", "ours"), seen=seen)
            self.not_so(program, "anew", ("", "away"), seen=seen)
            self.not_so(program, "copied", ("", "ours"), seen=seen)
            self.not_so(program, "anew", ("", "ours"), seen=seen, begin=["g"])
            self.not_so(self.program("out = g - {a}"), "anew", ("", "ours"), seen=seen)

    def test_bound_marks(self):
        for seen in ("all", "answers"):
            self.alone(3, self.program("out = {Z}"), "copied", ("", "ours"), seen=seen)
            self.not_so(self.program("out = {Z}"), "copied", ("", "away"), seen=seen)
            self.not_so(self.program("out = {ab}"), "copied", ("", "ours"), seen=seen)
            self.alone(3, self.program("if a in g", "out = {Z}", "end"), "anew", ("", "ours"), seen=seen)
            self.alone(3, self.program("if not a in g", "out = {Z}", "end"), "anew", ("", "ours"), seen=seen)

    def test_tasks_that_fail_have_no_answer(self):
        self.ends(self.program("out = g", "fail {}"), "anew", ("", "ours"))
        self.ends(self.program("out = {Z}", "fail {}"), "copied", ("", "ours"))


class WatchedAnswers(Steps):

    TASK = ["if a in item", "g |= h", "else", "out = g", "end"]

    def test_unlike_in_both(self):
        program = Program("Zab", ["g = {}", "h = {}"], ["h = {b}"], self.TASK)
        for chunk in (None, 2, 3):
            seen = {"seen": "answers", "chunk": chunk}
            self.alone(4, program, "anew", ("", "ours", "answer"), ("a", "on"), **seen)
            self.not_so(program, "copied", ("", "ours", "answer"), ("a", "on"), **seen)
            self.not_so(program, "anew", ("", "ours", "answer"), ("a", "on"), begin=["h"], **seen)
            self.not_so(program, "anew", ("", "ours", None), ("a", "on"), **seen)
            self.not_so(program, "anew", ("", "ours", "answer"), ("", "on"), **seen)

    def test_bound_marks_in_theirs(self):
        for contents, holds in [("{Z}", True), ("{b}", False), ("{Za}", True)]:
            program = Program("Zab", ["g = {}", f"h = {contents}"], [], self.TASK)
            seen = {"seen": "answers", "chunk": None}
            check = (lambda *case, **more: self.alone(4, *case, **more)) if holds else self.not_so
            check(program, "copied", ("", "ours", "answer"), ("a", "on"), **seen)
            self.not_so(program, "copied", ("", "ours", None), ("a", "on"), **seen)

    def test_the_task_fails_in_mine(self):
        program = Program("Zab", ["g = {}", "h = {}"], ["h = {b}"], self.TASK[:2] + ["fail {}"] + self.TASK[2:])
        self.ends(program, "anew", ("", "ours", "answer"), ("a", "on"), seen="answers", chunk=2)

    def test_only_theirs_can_change(self):
        task = ["if a in item", "g |= {a}", "end", "if a in h", "out = g", "else", "out = g | {}", "end"]
        program = Program("ab", ["g = {}", "h = {a}"], ["h = {}"], task)
        seen = {"seen": "answers", "chunk": 2}
        self.alone(4, program, "anew", ("", "ours", "answer"), ("a", "on"), **seen)
        self.not_so(program, "anew", ("", "ours", "answer"), ("", "on"), **seen)

    def test_only_mine_can_change(self):
        task = ["if a in item", "g |= {a}", "end", "if a in h", "out = g", "else", "out = g | {}", "end"]
        program = Program("ab", ["g = {}", "h = {}"], ["h = {a}"], task)
        seen = {"seen": "answers", "chunk": 2}
        self.alone(5, program, "anew", ("", "ours", "answer"), ("a", "on"), **seen)
        self.not_so(program, "anew", ("", "ours", "answer"), ("", "on"), **seen)
        self.not_so(program, "anew", ("", "ours", None), ("a", "on"), **seen)

    def test_behind_the_chunk(self):
        task = ["if a in item", "g |= {a}", "else", "out = g", "end"]
        program = Program("ab", ["g = {}"], [], task)
        for chunk in (None, 1):
            seen = {"seen": "answers", "chunk": chunk}
            self.alone(5, program, "copied", ("", "ours", "answer"), ("a", "away"), **seen)
            self.alone(5, program, "copied", ("", "ours", "answer"), ("a", "ours"), **seen)
            self.not_so(program, "copied", ("", "ours", "answer"), ("", "away"), **seen)
            self.not_so(program, "copied", ("", "ours", "answer"), ("b", "ours"), **seen)
            self.not_so(program, "copied", ("", "ours", None), ("a", "away"), **seen)
        # In the same chunk both answers change.
        self.not_so(program, "copied", ("", "ours", "answer"), ("a", "on"), seen="answers", chunk=None)
        self.alone(
            5, program, "copied", ("", "ours", "answer"), ("", "away", "answer"), ("b", "on", "answer"), ("a", "on"),
            seen="answers", chunk=None)

    def test_the_contents_ahead_of_the_step(self):
        program = Program("ab", ["g = {}"], [], ["if a in item", "g ^= {a}", "g ^= {a}", "end", "out = g"])
        self.not_so(program, "copied", ("", "ours", "answer"), ("a", "away"), seen="answers")
        program = Program("ab", ["g = {b}"], [], ["g |= item", "out = g"])
        self.not_so(program, "copied", ("", "ours", "answer"), ("b", "away"), seen="answers")
        self.alone(5, program, "copied", ("", "ours", "answer"), ("ab", "away"), seen="answers")

    def test_the_task_fails_behind_the_chunk(self):
        program = Program("ab", ["g = {}"], [], ["if a in item", "g |= {a}", "fail {}", "else", "out = g", "end"])
        self.ends(program, "copied", ("", "ours", "answer"), ("a", "away"), seen="answers")


class Passed(Steps):

    def test_the_box_of_the_item(self):
        program = Program("ab", ["g = {}"], [], ["item |= {b}"])
        for move in ("ours", "away"):
            for text in ("", "a"):
                self.alone(6, program, "copied", (text, move))
                self.not_so(program, "copied", (text, move), seen="answers")
            for text in ("b", "ab"):
                self.not_so(program, "copied", (text, move))
        self.alone(6, program, "copied", ("b", "away", None), ("a", "on"), chunk=2)

    def test_changed_and_changed_back(self):
        self.not_so(Program("ab", [], [], ["item ^= {b}", "item ^= {b}"]), "copied", ("a", "ours"))
        self.not_so(Program("ab", [], [], ["item = {b}", "item |= {a}"]), "copied", ("a", "ours"))

    def test_also_if_the_task_fails(self):
        program = Program("ab", [], [], ["item |= {b}", "fail {}"])
        for move in ("ours", "away"):
            self.alone(6, program, "copied", ("a", move))
            self.ends(program, "copied", ("b", move))
            self.ends(program, "copied", ("a", move), seen="answers")

    def test_own_names_are_in_the_world(self):
        program = Program("ab", [], ["x = {}"], ["item |= {b}"])
        self.not_so(program, "copied", (".x", "away"))
        self.alone(8, program, "copied", (".x", "ours"))

    def test_a_box_that_was_given(self):
        program = Program("ab", ["g = {}"], [], ["if a in g", "g |= {b}", "end", "g = item"])
        self.alone(6, program, "copied", ("a", "away", "given"), ("", "away"))
        self.not_so(program, "copied", ("a", "away", None), ("", "away"))
        self.not_so(program, "copied", ("b", "away", "given"), ("", "away"))
        self.not_so(program, "copied", ("ab", "away", "given"), ("", "away"))
        self.not_so(program, "copied", ("a", "away", None), ("", "away"), seen="answers")

    def test_a_box_that_was_given_and_the_task_fails(self):
        program = Program("ab", ["g = {}"], [], ["if a in g", "g |= {b}", "fail {}", "end", "g = item"])
        self.alone(6, program, "copied", ("a", "away", "given"), ("", "away"))
        self.ends(program, "copied", ("a", "away", None), ("", "away"))
        self.ends(program, "copied", ("ab", "away", "given"), ("", "away"))


class Back(Steps):

    def test_bound_marks(self):
        program = Program("Zab", ["g = {Z}", "h = {a}"], [], [])
        for seen in ("all", "answers"):
            for back in (["g"], ["g", "h"], ["h", "g"]):
                self.alone(7, program, "copied", ("", "ours"), back=back, seen=seen)
                self.alone(7, program, "anew", ("", "away", None), ("", "ours"), back=back, seen=seen)
                self.not_so(program, "copied", ("", "away"), back=back, seen=seen)
            for back in ([], ["h"]):
                self.not_so(program, "copied", ("", "ours"), back=back, seen=seen)

    def test_what_the_worker_has(self):
        program = Program("Zab", ["g = {Z}"], ["g = {}"], [])
        self.alone(7, program, "anew", ("", "ours"), back=["g"], seen="answers")
        self.not_so(program, "copied", ("", "ours"), back=["g"], seen="answers")
        program = Program("Zab", ["g = {}"], ["g = {Z}"], [])
        self.not_so(program, "anew", ("", "ours"), back=["g"])
        self.alone(7, program, "copied", ("", "ours"), back=["g"])

    def test_tasks_that_fail_bring_nothing(self):
        self.ends(Program("Zab", ["g = {Z}"], [], ["fail {}"]), "copied", ("", "ours"), back=["g"])


class WorldsDiffer(Steps):

    def program(self, *task, module=("g = {}", "h = {}"), caller=()):
        return Program("Zab", list(module), list(caller), list(task))

    def test_what_the_loop_changes(self):
        program = self.program("g |= {a}")
        for way in ("copied", "anew"):
            self.alone(8, program, way, ("", "ours"))
            self.not_so(program, way, ("", "away"))
            self.not_so(program, way, ("", "ours"), seen="answers")
            self.not_so(program, way, ("", "ours"), back=["g"])
            self.alone(8, program, way, ("", "ours"), back=["h"])

    def test_since_the_chunk_began(self):
        program = self.program("if a in item", "g |= {a}", "end")
        self.alone(8, program, "copied", ("", "ours", None), ("a", "on"), chunk=2)
        self.not_so(program, "copied", ("a", "away", None), ("", "ours"))
        self.not_so(program, "copied", ("", "ours", None), ("a", "on"), chunk=2, back=["g"])
        self.not_so(program, "copied", ("a", "ours", None), ("", "on"), chunk=2, back=["g"])

    def test_back_adds_alone(self):
        for sign in ("-=", "^="):
            program = self.program(f"g {sign} {{a}}", module=("g = {a}",))
            self.alone(8, program, "copied", ("", "ours"), back=["g"])
            self.alone(8, program, "copied", ("", "ours"))

    def test_back_may_bring_too_much(self):
        program = self.program(module=("g = {a}",), caller=("g = {}",))
        self.alone(8, program, "anew", ("", "ours"), back=["g"])
        self.not_so(program, "anew", ("", "ours"), back=["g"], begin=["g"])
        self.not_so(program, "copied", ("", "ours"), back=["g"])
        self.not_so(program, "anew", ("", "ours"), back=["g"], seen="answers")
        self.not_so(program, "anew", ("", "ours"))

    def test_names_that_come_to_share_a_box(self):
        program = self.program("g = h")
        for back in ([], ["g"], ["g", "h"]):
            self.alone(8, program, "copied", ("", "ours"), back=back)
            self.not_so(program, "copied", ("", "away"), back=back)
        self.not_so(self.program("g = {}"), "copied", ("", "ours"))
        self.not_so(self.program("g = {a}"), "copied", ("", "ours"), back=["g"])
        program = self.program("g = {}", caller=("x = g",))
        self.alone(8, program, "copied", ("", "ours"), back=["g"])

    def test_names_that_share_a_box_in_the_callers_world(self):
        program = self.program("g |= {a}", "h |= {a}", caller=("h = g",))
        for back, holds in [(["g"], False), (["h"], False), (["h", "g"], False), ([], True)]:
            for way in ("copied", "anew"):
                if holds:
                    self.alone(8, program, way, ("", "ours"), back=back)
                else:
                    self.not_so(program, way, ("", "ours"), back=back)

    def test_tasks_that_fail(self):
        program = self.program("if a in item", "g |= {a}", "end", "if not b in item", "fail {}", "end")
        for back in ([], ["g"]):
            self.alone(8, program, "copied", ("a", "ours"), back=back)
            self.ends(program, "copied", ("", "ours"), back=back)
            self.ends(program, "copied", ("a", "away"), back=back)
            self.ends(program, "copied", ("a", "ours"), back=back, seen="answers")
        # A chunk that fails brings nothing, also not what its first tasks did.
        self.not_so(program, "copied", ("ab", "ours"), back=["g"])
        self.alone(8, program, "copied", ("ab", "ours", None), ("", "on"), back=["g"], chunk=2)
        self.ends(program, "copied", ("ab", "ours", None), ("", "ours"), back=["g"], chunk=None)
        self.ends(program, "copied", ("ab", "away", None), ("", "on"), back=["g"], chunk=2)

    def test_own_names(self):
        program = self.program("item |= {a}", caller=("x = {}", "y = {a}"))
        self.alone(8, program, "copied", (".x", "ours"))
        self.not_so(program, "copied", (".x", "away"))
        self.not_so(program, "copied", (".y", "ours"))
        self.not_so(program, "copied", (".x", "ours"), seen="answers")

    def test_names_of_watched_boxes_do_not_count(self):
        program = self.program("g |= item", "out = g", module=("g = {a}",))
        self.not_so(program, "copied", ("", "ours", "answer"), ("a", "ours"))
        self.not_so(program, "copied", ("", "ours", "answer"), ("a", "on"), chunk=2)
        program = self.program("g = item", module=("g = {}",))
        self.not_so(program, "copied", ("", "away", "given"), ("", "ours"))
        self.alone(8, program, "copied", ("", "away", "given"), ("a", "ours"))


if __name__ == "__main__":
    unittest.main()
