"""The way here: point 20, and what the outcome has of it (23)."""

import itertools
import unittest

from pooled import as_tuple
from workerworlds.pools import Pool
from workerworlds.programs import Program

PROGRAMS = [
    Program("ab", ["kept = {}"], ["x = {a}"], ["kept |= item", "out = kept"]),
    Program(
        "Zab", ["g = {}"], ["x = g", "y = {Z}"],
        ["if a in item", "fail g from item", "end", "g |= item", "out = g"]),
    Program("Zab", ["g = {a}", "h = g"], ["x = h", "h = {Z}"], ["item |= {b}", "out = item", "h = item"]),
    Program("ab", [], ["x = {}"], ["item ^= {a}", "out = item"]),
]


def here(program, items):
    return as_tuple(Pool(program, "here").outcome(items))


class InOrder(unittest.TestCase):

    def test_in_the_callers_world(self):
        program = Program("ab", ["kept = {}"], ["x = kept"], ["kept |= item", "out = kept | {}"])
        pool = Pool(program, "here")
        outcome = pool.outcome([("box", "b"), ("box", ""), ("box", "a")])
        self.assertEqual(as_tuple(outcome), (("b", "b", "ab"), None, ((("kept", "x"), "ab"),), ("b", "", "a")))
        self.assertEqual(pool.rows(), ((("kept", "x"), "ab"),))
        self.assertEqual(pool.map([("box", "")]), ["ab"])

    def test_answers_are_read_when_the_call_has_ended(self):
        program = Program(
            "ab", ["g = {}"], [], ["if a in item", "g |= {a}", "out = g", "else", "g = {b}", "out = g", "end"])
        items = [("box", ""), ("box", "a"), ("box", "a"), ("box", "b"), ("box", ""), ("box", "a")]
        self.assertEqual(here(program, items)[0], ("ab", "ab", "ab", "b", "ab", "ab"))

    def test_an_answer_may_change_in_a_later_call(self):
        pool = Pool(Program("ab", ["g = {}"], [], ["g |= item", "out = g"]), "here")
        first = pool.outcome([("box", "a")])
        second = pool.outcome([("box", "b")])
        self.assertEqual((first.answers, second.answers), (("a",), ("ab",)))
        self.assertEqual((first.world, second.world), (((("g",), "a"),), ((("g",), "ab"),)))

    def test_no_items(self):
        for program in PROGRAMS:
            self.assertEqual(here(program, []), ((), None, program.begun().rows(), ()))


class TheVeryBoxes(unittest.TestCase):

    def test_a_new_box_for_each_place(self):
        program = Program("ab", ["g = {}"], [], ["item |= {b}", "out = item"])
        item = ("box", "a")
        self.assertEqual(here(program, [item, item]), (("ab", "ab"), None, ((("g",), ""),), ("ab", "ab")))
        program = Program("ab", ["g = {}"], [], ["if b in g", "g |= {a}", "end", "g = item", "out = item"])
        self.assertEqual(here(program, [("box", "b"), ("box", "b")])[3], ("ab", "b"))

    def test_the_box_of_a_name(self):
        program = Program("ab", ["g = {}"], ["x = {}", "y = x"], ["item |= {b}", "out = item"])
        for name, rows in [
            ("g", ((("g",), "b"), (("x", "y"), ""))),
            ("x", ((("g",), ""), (("x", "y"), "b"))),
            ("y", ((("g",), ""), (("x", "y"), "b"))),
        ]:
            self.assertEqual(here(program, [("name", name)]), (("b",), None, rows, ("b",)))

    def test_one_box_at_several_places(self):
        program = Program("ab", ["g = {}"], ["x = {}", "y = x"], ["if a in item", "item |= {b}", "end", "item |= {a}"])
        found = here(program, [("name", "x"), ("box", ""), ("name", "y"), ("box", "a")])
        self.assertEqual(found, (("",) * 4, None, ((("g",), ""), (("x", "y"), "ab")), ("ab", "a", "ab", "ab")))

    def test_the_box_that_the_name_has_when_the_call_begins(self):
        program = Program("ab", ["g = {a}"], [], ["g = {b}", "out = item"])
        found = here(program, [("name", "g"), ("name", "g")])
        self.assertEqual(found, (("a", "a"), None, ((("g",), "b"),), ("a", "a")))

    def test_an_item_may_become_the_box_of_a_global(self):
        program = Program("ab", ["g = {a}"], ["x = {}"], ["g |= {b}", "g = item", "out = g"])
        found = here(program, [("name", "x"), ("box", "a"), ("box", "")])
        self.assertEqual(found, (("b", "ab", ""), None, ((("g",), ""), (("x",), "b")), ("b", "ab", "")))
        found = here(program, [("box", "a"), ("name", "x")])
        self.assertEqual(found, (("ab", ""), None, ((("g", "x"), ""),), ("ab", "")))

    def test_bound_marks(self):
        program = Program("Za", ["g = {Z}"], ["x = {Z}"], ["out = item | g"])
        found = here(program, [("box", "Z"), ("name", "x"), ("box", "a")])
        self.assertEqual(found, (("Z", "Z", "Za"), None, ((("g",), "Z"), (("x",), "Z")), ("Z", "Z", "a")))


class Failures(unittest.TestCase):

    PROGRAM = Program(
        "Zab", ["g = {}"], ["x = {}"],
        ["g |= item", "item |= {b}", "if a in item", "fail item from g", "end", "if Z in item", "fail {Z}", "end",
         "out = g"])

    def test_up_to_the_first_failure(self):
        found = here(self.PROGRAM, [("box", ""), ("name", "x"), ("box", "a"), ("box", "b"), ("box", "Z")])
        self.assertEqual(
            found, (("a", "a"), ("failed", 2, "ab", "a"), ((("g",), "a"), (("x",), "b")), ("b", "b", "ab", "b", "Z")))

    def test_no_cause_and_bound_marks(self):
        found = here(self.PROGRAM, [("box", ""), ("box", "Z"), ("box", "a")])
        self.assertEqual(found, (("Z",), ("failed", 1, "Z", None), ((("g",), "Z"), (("x",), "")), ("b", "Zb", "a")))
        found = here(self.PROGRAM, [("box", "Za")])
        self.assertEqual(found, ((), ("failed", 0, "Zab", "Za"), ((("g",), "Za"), (("x",), "")), ("Zab",)))

    def test_at_each_index(self):
        for many in range(5):
            items = [("box", "")] * many + [("box", "a")] + [("box", "")] * (4 - many)
            answers, failure, _, passed = here(self.PROGRAM, items)
            self.assertEqual((answers, failure), (("a",) * many, ("failed", many, "ab", "a")))
            self.assertEqual(passed, ("b",) * many + ("ab",) + ("",) * (4 - many))

    def test_a_failure_tells_what_was_then(self):
        program = Program("ab", ["g = {a}"], [], ["fail g"])
        pool = Pool(program, "here")
        first = pool.outcome([("box", "")])
        pool.do("g |= {b}")
        second = pool.outcome([("box", "")])
        self.assertEqual((first.failure, second.failure), (("failed", 0, "a", None), ("failed", 0, "ab", None)))


class Settings(unittest.TestCase):

    def test_they_have_no_effect(self):
        items = [("box", "b"), ("name", "x"), ("box", ""), ("name", "x"), ("box", "a")]
        for program in PROGRAMS:
            wanted = here(program, items)
            globals_ = program.global_names()
            for workers, chunk, renew, names in itertools.product([1, 2, 9], [1, 2, 9], [False, True], [[], globals_]):
                for begin, back in itertools.product([[], names], repeat=2):
                    pool = Pool(
                        program, "here", workers=workers, chunk=chunk, renew=renew, begin=begin, back=back)
                    self.assertEqual(as_tuple(pool.outcome(items)), wanted)

    def test_cuts_and_dealings_have_no_effect(self):
        items = [("box", "b"), ("name", "x"), ("box", "a")]
        for program in PROGRAMS:
            wanted = here(program, items)
            for cut in [(1, 1, 1), (1, 2), (2, 1), (3,)]:
                for dealing in itertools.product(range(2), repeat=len(cut)):
                    self.assertEqual(as_tuple(Pool(program, "here").outcome(items, cut=cut, dealing=dealing)), wanted)


if __name__ == "__main__":
    unittest.main()
