"""Outcomes: points 23 and 24, and the class Outcome of the interface."""

import itertools
import unittest

from helping import same_value
from pooled import alike_by, as_tuple
from workerworlds.pools import Outcome, Pool
from workerworlds.programs import Program

WAYS = ("here", "copied", "anew")
PROGRAM = Program(
    "ab", ["g = {}"], ["x = g"], ["if b in item", "fail g from item", "end", "g |= item", "out = g"])


def outcome(program, way, items, call=None, **settings):
    return Pool(program, way, **settings).outcome(items, **(call or {}))


class Contents(unittest.TestCase):

    def test_kinds(self):
        for way in WAYS:
            for items in ([], [("box", "a"), ("name", "x")], [("box", "a"), ("box", "b")]):
                found = outcome(PROGRAM, way, items)
                self.assertIs(found.__class__, Outcome)
                for value in (found.answers, found.passed, found.world):
                    self.assertIs(value.__class__, tuple)
                self.assertEqual(set(map(type, found.answers + found.passed)) - {str}, set())
                self.assertIn(found.failure.__class__, (tuple, type(None)))

    def test_in_all_three_ways(self):
        items = [("box", "a"), ("name", "x"), ("box", "")]
        rows, changed = ((("g", "x"), ""),), ((("g", "x"), "a"),)
        self.assertTrue(
            same_value(as_tuple(outcome(PROGRAM, "here", items)), (("a", "a", "a"), None, changed, ("a", "a", ""))))
        for way in ("copied", "anew"):
            self.assertTrue(
                same_value(as_tuple(outcome(PROGRAM, way, items)), (("a", "", "a"), None, rows, ("a", "", ""))))

    def test_failed(self):
        items = [("box", "a"), ("box", "ab"), ("name", "g")]
        rows, changed = ((("g", "x"), ""),), ((("g", "x"), "a"),)
        found = as_tuple(outcome(PROGRAM, "here", items))
        self.assertTrue(same_value(found, (("a",), ("failed", 1, "a", "ab"), changed, ("a", "ab", "a"))))
        for way in ("copied", "anew"):
            found = as_tuple(outcome(PROGRAM, way, items, workers=1))
            self.assertTrue(same_value(found, (("a",), ("failed", 1, "a", "ab"), rows, ("a", "ab", ""))))
            found = as_tuple(outcome(PROGRAM, way, items, chunk=3))
            self.assertTrue(same_value(found, ((), ("failed", 1, "a", "ab"), rows, ("a", "ab", ""))))

    def test_a_name_whose_box_back_changes(self):
        items = [("name", "g"), ("box", "a"), ("name", "x"), ("box", "b"), ("name", "x")]
        for way in ("copied", "anew"):
            found = as_tuple(outcome(PROGRAM, way, items, back=["g"]))
            self.assertEqual(
                found, (("", "a", ""), ("failed", 3, "a", "b"), ((("g", "x"), "a"),), ("a", "a", "a", "b", "a")))

    def test_what_was_passed_is_in_the_callers_process(self):
        program = Program("ab", [], ["x = {}"], ["item |= {a}", "out = item"])
        items = [("name", "x"), ("box", "b"), ("name", "x")]
        self.assertEqual(
            as_tuple(outcome(program, "here", items)), (("a", "ab", "a"), None, ((("x",), "a"),), ("a", "ab", "a")))
        for way in ("copied", "anew"):
            found = as_tuple(outcome(program, way, items))
            self.assertEqual(found, (("a", "ab", "a"), None, ((("x",), ""),), ("", "b", "")))

    def test_an_outcome_stays_what_it_was(self):
        for way in WAYS:
            pool = Pool(PROGRAM, way, back=["g"], workers=1)
            items = [("box", "a"), ("name", "x")]
            found = pool.outcome(items)
            before = as_tuple(found)
            items.append(("box", "b"))
            pool.do("g |= {b}")
            pool.do("x = {}")
            pool.map([("box", "a")])
            pool.outcome([("box", "b")])
            pool.shut()
            self.assertEqual(as_tuple(found), before)
            self.assertEqual(before[0], ("a", "a"))

    def test_each_call_gives_one_of_its_own(self):
        pool = Pool(PROGRAM, "copied")
        self.assertIsNot(pool.outcome([]), pool.outcome([]))


class Alike(unittest.TestCase):

    def test_by_what_is_seen(self):
        program = Program("ab", ["g = {}"], ["x = {}"], ["g |= item", "if b in item", "item |= {a}", "end"])
        here = outcome(program, "here", [("box", "a")])
        copied = outcome(program, "copied", [("box", "a")])
        back = outcome(program, "copied", [("box", "a")], back=["g"])
        cases = [(here, copied, False), (here, back, True), (copied, back, False), (here, here, True)]
        for one, other, by_all in cases:
            for first, second in ((one, other), (other, one)):
                self.assertIs(first.alike(second), by_all)
                self.assertIs(first.alike(second, seen="all"), by_all)
                self.assertIs(first.alike(second, seen="answers"), True)

    def test_answers(self):
        program = Program("ab", [], ["x = {}", "y = {a}"], ["out = item | {}"])
        found = {name: outcome(program, "here", [("name", name)]) for name in ("x", "y")}
        again = outcome(program, "copied", [("name", "x")])
        for seen in ("all", "answers"):
            self.assertIs(found["x"].alike(again, seen=seen), True)
            self.assertIs(found["x"].alike(found["y"], seen=seen), False)

    def test_many_answers_or_few(self):
        program = Program("ab", [], [], ["out = item | {}"])
        one, two = (outcome(program, "here", [("box", "")] * many) for many in (1, 2))
        self.assertIs(one.alike(two, seen="answers"), False)
        self.assertIs(two.alike(one), False)

    def test_what_was_passed_alone(self):
        program = Program("ab", [], [], ["item |= {a}"])
        here, copied = outcome(program, "here", [("box", "")]), outcome(program, "copied", [("box", "")])
        self.assertIs(here.alike(copied), False)
        self.assertIs(here.alike(copied, seen="answers"), True)
        here, copied = outcome(program, "here", [("box", "a")]), outcome(program, "copied", [("box", "a")])
        self.assertIs(here.alike(copied), True)

    def test_answers_do_not_count_behind_a_failure(self):
        program = Program("ab", [], [], ["if b in item", "fail {}", "end", "out = {a}"])
        items = [("box", ""), ("box", "b")]
        one, other = outcome(program, "anew", items), outcome(program, "anew", items, chunk=2)
        self.assertEqual((one.answers, other.answers), (("a",), ()))
        for seen in ("all", "answers"):
            self.assertIs(one.alike(other, seen=seen), True)

    def test_failures(self):
        def failing(row, items):
            return outcome(Program("Zab", [], [], ["if a in item", row, "end"]), "copied", items)

        fails = [("box", ""), ("box", "a")]
        rows = ["fail {}", "fail {b}", "fail {} from {}", "fail {} from {b}", "fail {Z}", "stop"]
        for one, other in itertools.product(rows, repeat=2):
            for seen in ("all", "answers"):
                self.assertIs(failing(one, fails).alike(failing(other, fails), seen=seen), one == other)
        self.assertIs(failing("fail {}", fails).alike(failing("fail {}", fails[1:]), seen="answers"), False)
        self.assertIs(failing("fail {}", fails).alike(failing("fail {Z}", fails), seen="answers"), False)
        # The same item does not cross, or its answer does not.
        item = outcome(Program("Zab", [], [], []), "copied", [("box", "Z")])
        answer = outcome(Program("Zab", [], [], ["out = {Z}"]), "copied", [("box", "")])
        self.assertEqual((item.failure, answer.failure), (("crossing", 0, "item"), ("crossing", 0, "answer")))
        self.assertIs(item.alike(answer, seen="answers"), False)

    def test_all_beside_the_model(self):
        programs = [
            PROGRAM,
            Program("Zab", ["g = {}"], ["x = g"], ["g ^= item", "out = g", "if Z in g", "fail item", "end"]),
            Program("ab", ["g = {a}"], ["g = {}", "x = g"], ["item |= g", "out = item"]),
        ]
        letters = [("box", ""), ("box", "a"), ("box", "b"), ("name", "x")]
        for program in programs:
            found = []
            for items in itertools.product(letters, repeat=2):
                for way, chunk, back in itertools.product(WAYS, (1, 2), ((), ("g",))):
                    found.append(outcome(program, way, list(items), chunk=chunk, back=back))
            for one, other in itertools.product(found, found[::7]):
                for seen in ("all", "answers"):
                    self.assertIs(one.alike(other, seen=seen), alike_by(as_tuple(one), as_tuple(other), seen))


if __name__ == "__main__":
    unittest.main()
