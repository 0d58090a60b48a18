"""Chunks and workers: points 16, 21 and 22."""

import itertools
import unittest

from pooled import as_tuple
from workerworlds.pools import Pool
from workerworlds.programs import Program

WAYS = ("copied", "anew")
KEEPS = Program("ab", ["kept = {}"], [], ["kept |= item", "out = kept"])
BOXES = {contents: ("box", contents) for contents in ["", "a", "b", "ab", "Z", "Za"]}


def boxes(*all_contents):
    return [BOXES[contents] for contents in all_contents]


class OneBoxAtSeveralPlaces(unittest.TestCase):

    PROGRAM = Program(
        "ab", [], ["x = {}", "y = x"], ["if a in item", "item |= {b}", "end", "item |= {a}", "out = item"])
    ITEMS = [("name", "x"), ("name", "y"), ("name", "x")]

    def test_in_one_chunk_it_is_one_copy(self):
        for way in WAYS:
            found = as_tuple(Pool(self.PROGRAM, way).outcome(self.ITEMS, cut=(3,)))
            self.assertEqual(found, (("ab", "ab", "ab"), None, ((("x", "y"), ""),), ("", "", "")))

    def test_in_two_chunks_it_is_two_copies(self):
        wanted = {(1, 1, 1): ("a", "a", "a"), (1, 2): ("a", "ab", "ab"), (2, 1): ("ab", "ab", "a")}
        for way, (cut, answers) in itertools.product(WAYS, wanted.items()):
            for dealing in itertools.product(range(2), repeat=len(cut)):
                found = as_tuple(Pool(self.PROGRAM, way).outcome(self.ITEMS, cut=cut, dealing=dealing))
                self.assertEqual(found, (answers, None, ((("x", "y"), ""),), ("", "", "")))

    def test_boxes_with_the_same_contents_stay_two(self):
        program = Program("ab", [], ["x = {}", "y = {}"], list(self.PROGRAM.task))
        for way in WAYS:
            self.assertEqual(Pool(program, way).map([("name", "x"), ("name", "y")], cut=(2,)), ["a", "a"])
            self.assertEqual(Pool(program, way).map(boxes("", "") * 2, cut=(4,)), ["a"] * 4)

    def test_a_sent_box_is_none_of_the_worker(self):
        program = Program("ab", ["g = {}"], ["x = g"], ["item |= {a}", "out = g"])
        pool = Pool(program, "copied")
        self.assertEqual(pool.map([("name", "g"), ("name", "x")], cut=(2,)), ["", ""])
        self.assertEqual((pool.worker(0), pool.rows()), (((("g",), ""),), ((("g", "x"), ""),)))

    def test_a_worker_may_keep_a_sent_box(self):
        program = Program("ab", ["g = {}"], ["x = {}"], ["g |= {b}", "out = item", "g = item"])
        for way in WAYS:
            pool = Pool(program, way, workers=1)
            self.assertEqual(pool.map([("name", "x"), ("box", ""), ("name", "x")], cut=(3,)), ["b", "b", "b"])
            self.assertEqual(pool.map([("name", "x"), ("box", ""), ("name", "x")], cut=(1, 1, 1)), ["", "", ""])
            self.assertEqual((pool.worker(0), pool.rows()), (((("g",), ""),), ((("g",), ""), (("x",), ""))))

    def test_sent_as_it_is_when_the_call_begins(self):
        program = Program("ab", ["g = {}"], [], ["g |= {a}", "out = item | {}"])
        for way in WAYS:
            pool = Pool(program, way, back=["g"])
            found = as_tuple(pool.outcome([("name", "g")] * 3))
            self.assertEqual(found, (("", "", ""), None, ((("g",), "a"),), ("a", "a", "a")))
            self.assertEqual(pool.map([("name", "g")]), ["a"])


class Worlds(unittest.TestCase):

    def test_a_worker_keeps_its_world_from_chunk_to_chunk(self):
        for way in WAYS:
            pool = Pool(KEEPS, way)
            found = pool.map(boxes("a", "", "", "b", ""), cut=(1, 1, 1, 1, 1), dealing=(0, 1, 0, 1, 0))
            self.assertEqual(found, ["a", "", "a", "b", "a"])
            self.assertEqual([pool.worker(0), pool.worker(1)], [((("kept",), "a"),), ((("kept",), "b"),)])
            self.assertEqual(pool.rows(), ((("kept",), ""),))

    def test_a_worker_keeps_its_world_from_call_to_call(self):
        for way in WAYS:
            pool = Pool(KEEPS, way)
            self.assertEqual(pool.map(boxes("a")), ["a"])
            self.assertEqual(pool.map(boxes("")), ["a"])
            self.assertEqual(pool.map(boxes("b"), dealing=(1,)), ["b"])
            self.assertEqual(pool.map(boxes("", "")), ["a", "b"])

    def test_in_turn_from_the_first_in_each_call(self):
        pool = Pool(KEEPS, "copied", workers=3)
        self.assertEqual(pool.map(boxes("a", "b", "", "b")), ["a", "b", "", "ab"])
        self.assertEqual(pool.map(boxes("", "")), ["ab", "b"])

    def test_answers_of_a_chunk_cross_together_at_its_end(self):
        for way in WAYS:
            self.assertEqual(Pool(KEEPS, way).map(boxes("a", "b", "", "b"), cut=(2, 2)), ["ab", "ab", "b", "b"])
            self.assertEqual(Pool(KEEPS, way, workers=1).map(boxes("a", "b"), cut=(1, 1)), ["a", "ab"])

    def test_a_failed_task_leaves_what_it_did(self):
        program = Program("ab", ["g = {}"], [], ["g |= item", "if b in item", "fail {}", "end", "g = {a}", "out = g"])
        for way in WAYS:
            pool = Pool(program, way)
            self.assertEqual(pool.outcome(boxes("", "b", "")).failure, ("failed", 1, "", None))
            self.assertEqual([pool.worker(0), pool.worker(1)], [((("g",), "a"),), ((("g",), "b"),)])
            pool = Pool(program, way, chunk=3)
            self.assertEqual(pool.outcome(boxes("", "b", "")).failure, ("failed", 1, "", None))
            self.assertEqual(pool.worker(0), ((("g",), "ab"),))


class Renew(unittest.TestCase):

    def test_each_chunk_begins_with_the_start_world(self):
        for way in WAYS:
            pool = Pool(KEEPS, way, workers=1, chunk=2, renew=True)
            self.assertEqual(pool.map(boxes("a", "", "", "b", "")), ["a", "a", "b", "b", ""])
            self.assertEqual(pool.worker(0), ((("kept",), ""),))
            self.assertEqual(pool.map(boxes("a")), ["a"])
            self.assertEqual(pool.worker(0), ((("kept",), "a"),))
            self.assertEqual(pool.map([]), [])
            self.assertEqual(pool.worker(0), ((("kept",), "a"),))
            self.assertEqual(pool.map(boxes("")), [""])

    def test_the_start_world_with_names_to_begin_with(self):
        program = Program("ab", ["g = {}", "h = {a}"], ["g = {b}", "h = g"], ["g |= item", "out = h"])
        cases = [((), ["a"] * 3), (("g",), ["a"] * 3), (("h",), ["b"] * 3), (("g", "h"), ["ab", "b", "b"])]
        for begin, answers in cases:
            pool = Pool(program, "anew", workers=1, begin=begin, renew=True)
            self.assertEqual(pool.map(boxes("a", "", "b")), answers)
        self.assertEqual(Pool(program, "copied", workers=1, renew=True).map(boxes("a", "", "b")), ["ab", "b", "b"])

    def test_only_the_worker_of_the_chunk(self):
        pool = Pool(KEEPS, "copied", renew=True)
        pool.map(boxes("a", "b"))
        pool.map(boxes(""))
        self.assertEqual([pool.worker(0), pool.worker(1)], [((("kept",), ""),), ((("kept",), "b"),)])

    def test_also_for_a_chunk_whose_items_do_not_cross(self):
        program = Program("Zab", ["kept = {}"], [], ["kept |= item", "out = kept"])
        for way in WAYS:
            for renew, kept in [(True, ""), (False, "a")]:
                pool = Pool(program, way, renew=renew, workers=1)
                self.assertEqual(pool.outcome(boxes("a", "Z")).failure, ("crossing", 1, "item"))
                self.assertEqual(pool.worker(0), ((("kept",), kept),))

    def test_behind_a_failed_chunk(self):
        program = Program("ab", ["kept = {}"], [], ["kept |= item", "if b in item", "fail kept", "end", "out = kept"])
        for way in WAYS:
            pool = Pool(program, way, workers=1, renew=True)
            found = pool.outcome(boxes("a", "b", "ab", "a", ""))
            self.assertEqual((found.answers, found.failure), (("a",), ("failed", 1, "b", None)))
            self.assertEqual(pool.worker(0), ((("kept",), ""),))
            self.assertEqual(pool.outcome(boxes("a", "ab")).failure, ("failed", 1, "ab", None))

    def test_what_the_caller_does_is_not_in_the_start_world(self):
        pool = Pool(KEEPS, "copied", workers=1, renew=True, back=["kept"])
        pool.do("kept = {b}")
        self.assertEqual(pool.map(boxes("a", "", "")), ["a", "", ""])
        self.assertEqual((pool.rows(), pool.worker(0)), (((("kept",), "ab"),), ((("kept",), ""),)))


class Failures(unittest.TestCase):

    # Each letter of an item is an order: fail plainly, fail with a bound mark, answer with one, leave one in g.
    PROGRAM = Program(
        "Zab", ["g = {}", "h = {}"], ["x = {}", "y = {Z}"],
        ["h ^= {a}", "if item == {a}", "fail h from {b}", "end", "if item == {b}", "fail h from {Z}", "end",
         "if item == {ab}", "out = {Z}", "end"])

    def failure(self, items, cut, way="copied", **settings):
        outcome = Pool(self.PROGRAM, way, **settings).outcome(items, cut=cut)
        return outcome.answers, outcome.failure

    def test_items(self):
        for way in WAYS:
            self.assertEqual(self.failure(boxes("Z"), (1,), way), ((), ("crossing", 0, "item")))
            self.assertEqual(self.failure(boxes("", "", "Za", "Z"), (4,), way), ((), ("crossing", 2, "item")))
            self.assertEqual(self.failure(boxes("", "", "Za", "Z"), (1, 3), way), (("",), ("crossing", 2, "item")))
            self.assertEqual(self.failure(boxes("", "", "Za", "Z"), (2, 2), way), (("", ""), ("crossing", 2, "item")))
            self.assertEqual(self.failure(boxes("", "", "Za", "Z"), (3, 1), way), ((), ("crossing", 2, "item")))
            self.assertEqual(self.failure([("name", "x"), ("name", "y")], (2,), way), ((), ("crossing", 1, "item")))

    def test_no_task_is_run_if_an_item_does_not_cross(self):
        for way in WAYS:
            pool = Pool(self.PROGRAM, way)
            pool.outcome(boxes("", "", "Z"), cut=(3,))
            self.assertEqual(pool.worker(0), ((("g",), ""), (("h",), "")))
            # The item comes ahead of a task that would fail first.
            self.assertEqual(pool.outcome(boxes("a", "Z"), cut=(2,)).failure, ("crossing", 1, "item"))

    def test_tasks_that_fail(self):
        for way in WAYS:
            self.assertEqual(self.failure(boxes("a"), (1,), way), ((), ("failed", 0, "a", "b")))
            self.assertEqual(
                self.failure(boxes("", "", "a", ""), (2, 2), way, workers=1), (("", ""), ("failed", 2, "a", "b")))
            self.assertEqual(self.failure(boxes("", "", "a", ""), (1, 3), way), (("",), ("failed", 2, "", "b")))
            self.assertEqual(self.failure(boxes("", "", "", "a"), (1, 3), way), (("",), ("failed", 3, "a", "b")))

    def test_the_rest_of_a_chunk_is_not_run(self):
        for way in WAYS:
            pool = Pool(self.PROGRAM, way)
            pool.outcome(boxes("", "a", "", "", ""), cut=(4, 1), dealing=(0, 1))
            self.assertEqual([pool.worker(0)[1], pool.worker(1)[1]], [(("h",), ""), (("h",), "a")])

    def test_errors_that_do_not_cross(self):
        for way in WAYS:
            self.assertEqual(self.failure(boxes("b"), (1,), way), ((), ("crossing", 0, "error")))
            self.assertEqual(self.failure(boxes("", "", "b", "a"), (2, 2), way), (("", ""), ("crossing", 2, "error")))
            self.assertEqual(self.failure(boxes("", "", "", "b"), (1, 3), way), (("",), ("crossing", 3, "error")))
        for row in ["fail {Z}", "fail {Z} from {a}", "fail {a} from {Z}", "fail {Za} from {Z}"]:
            found = Pool(Program("Za", [], [], [row]), "copied").outcome(boxes(""))
            self.assertEqual(found.failure, ("crossing", 0, "error"))
        for row, told, cause in [("fail {a}", "a", None), ("fail {} from {a}", "", "a"), ("fail {} from {}", "", "")]:
            found = Pool(Program("Za", [], [], [row]), "copied").outcome(boxes(""))
            self.assertEqual(found.failure, ("failed", 0, told, cause))

    def test_answers_that_do_not_cross(self):
        for way in WAYS:
            self.assertEqual(self.failure(boxes("ab"), (1,), way), ((), ("crossing", 0, "answer")))
            self.assertEqual(self.failure(boxes("", "ab", "", "ab"), (4,), way), ((), ("crossing", 1, "answer")))
            self.assertEqual(self.failure(boxes("", "", "", "ab"), (1, 3), way), (("",), ("crossing", 3, "answer")))
            # A task that fails comes ahead of an answer that does not cross.
            self.assertEqual(self.failure(boxes("ab", "a"), (2,), way), ((), ("failed", 1, "", "b")))

    def test_answers_as_they_are_at_the_end_of_the_chunk(self):
        program = Program("Za", ["g = {}"], [], ["g ^= {Z}", "out = g"])
        for way in WAYS:
            pool = Pool(program, way, workers=1)
            self.assertEqual(pool.outcome(boxes("", ""), cut=(2,)).answers, ("", ""))
            self.assertEqual(pool.outcome(boxes("", ""), cut=(1, 1)).failure, ("crossing", 0, "answer"))
            self.assertEqual(pool.outcome(boxes("", "", ""), cut=(3,)).failure, ("crossing", 0, "answer"))
        program = Program("Za", ["g = {}"], [], ["g |= item", "out = g", "if a in item", "out = {Z}", "end"])
        self.assertEqual(
            Pool(program, "copied").outcome(boxes("", "a", ""), cut=(3,)).failure, ("crossing", 1, "answer"))

    def test_back_that_does_not_cross(self):
        program = Program("Zab", ["g = {}", "h = {}"], [], ["g |= {Z}", "if a in item", "g = {b}", "end", "h |= item"])
        for way in WAYS:
            for back in (["g"], ["h", "g"], ["g", "h"]):
                pool = Pool(program, way, back=back)
                found = as_tuple(pool.outcome(boxes("a", "b", "", "a"), cut=(1, 2, 1)))
                brought = "a" if "h" in back else ""
                wanted = ((("g",), "b"), (("h",), brought))
                self.assertEqual(found, (("",), ("crossing", 2, "back"), wanted, ("a", "b", "", "a")))
                self.assertEqual(pool.worker(1)[1], (("h",), "b"))
            found = as_tuple(Pool(program, way, back=["h"]).outcome(boxes("a", "b", ""), cut=(1, 2)))
            self.assertEqual(found, (("",) * 3, None, ((("g",), ""), (("h",), "ab")), ("a", "b", "")))

    def test_answers_ahead_of_back(self):
        program = Program("Za", ["g = {Z}"], [], ["out = g"])
        self.assertEqual(Pool(program, "copied", back=["g"]).outcome(boxes("", "")).failure, ("crossing", 0, "answer"))
        program = Program("Za", ["g = {Z}"], [], [])
        self.assertEqual(Pool(program, "copied", back=["g"]).outcome(boxes("", "")).failure, ("crossing", 0, "back"))
        self.assertEqual(
            Pool(program, "copied", back=["g"]).outcome(boxes("", ""), cut=(2,)).failure, ("crossing", 1, "back"))

    def test_the_failure_of_the_first_chunk_that_fails(self):
        for way in WAYS:
            orders = boxes("Z", "a", "b", "ab")
            for items in itertools.permutations(orders):
                whats = {"Z": ("crossing", "item"), "a": ("failed", "a"), "b": ("crossing", "error"),
                         "ab": ("crossing", "answer")}
                found = self.failure([BOXES[""], *items], (1,) * 5, way, workers=5)
                kind, what = whats[items[0][1]]
                wanted = (kind, 1, what, "b") if kind == "failed" else (kind, 1, what)
                self.assertEqual(found, (("",), wanted))

    def test_chunks_behind_a_failed_one_are_run(self):
        for way in WAYS:
            for first in ["Z", "a", "b", "ab"]:
                pool = Pool(self.PROGRAM, way, workers=3, back=["h"])
                found = pool.outcome(boxes("", first, "", "", "a", ""), cut=(1, 1, 2, 1, 1), dealing=(0, 1, 2, 2, 0))
                self.assertEqual((found.answers, found.failure[1]), (("",), 1))
                self.assertEqual(pool.worker(2)[1], (("h",), "a"))
                self.assertEqual(pool.worker(0)[1], (("h",), ""))
                self.assertEqual(pool.rows()[1], (("h",), "a"))


class Back(unittest.TestCase):

    PROGRAM = Program(
        "ab", ["g = {}", "h = {}"], ["x = {}"], ["g |= item", "if a in item", "h = {b}", "end", "out = h"])

    def test_by_adding_to_what_the_caller_has(self):
        for way in WAYS:
            pool = Pool(self.PROGRAM, way, back=("g",))
            pool.do("g |= {b}")
            self.assertEqual(pool.outcome(boxes("a")).world, ((("g",), "ab"), (("h",), ""), (("x",), "")))
            pool.do("g = {}")
            self.assertEqual(pool.outcome(boxes("")).world, ((("g",), "a"), (("h",), ""), (("x",), "")))

    def test_nothing_else_of_the_callers_world_changes(self):
        for way in WAYS:
            found = as_tuple(Pool(self.PROGRAM, way).outcome([("name", "x"), ("box", "a"), ("name", "g")]))
            self.assertEqual(found, (("", "b", ""), None, self.PROGRAM.begun().rows(), ("", "a", "")))

    def test_a_box_that_the_worker_has_bound_again(self):
        for way in WAYS:
            pool = Pool(self.PROGRAM, way, back=("h",))
            pool.do("x = h")
            self.assertEqual(pool.outcome(boxes("a")).world, ((("g",), ""), (("h", "x"), "b")))

    def test_a_name_that_the_caller_has_bound_again(self):
        for way in WAYS:
            pool = Pool(self.PROGRAM, way, back=("g",))
            pool.do("x = g")
            pool.do("g = h")
            self.assertEqual(pool.outcome(boxes("a")).world, ((("g", "h"), "a"), (("x",), "")))

    def test_two_names_that_share_a_box_in_the_callers_world(self):
        program = Program("ab", ["g = {}", "h = {}"], ["g = h"], ["g = {a}", "h = {b}"])
        for way in WAYS:
            for back, contents in [(("g",), "a"), (("h",), "b"), (("g", "h"), "ab"), (("h", "g"), "ab"), ((), "")]:
                pool = Pool(program, way, back=back)
                self.assertEqual(pool.outcome(boxes("")).world, ((("g", "h"), contents),))

    def test_two_names_that_share_a_box_in_the_worker(self):
        program = Program("ab", ["g = {}", "h = {}"], [], ["g |= item", "h = g"])
        for way in WAYS:
            pool = Pool(program, way, back=("h", "g"))
            self.assertEqual(pool.outcome(boxes("a")).world, ((("g",), "a"), (("h",), "a")))
            pool = Pool(program, way, back=("h",))
            self.assertEqual(pool.outcome(boxes("a")).world, ((("g",), ""), (("h",), "a")))

    def test_the_contents_at_the_end_of_each_chunk(self):
        program = Program("ab", ["g = {}"], [], ["g = item"])
        for way in WAYS:
            for cut, contents in [((1, 1, 1), "ab"), ((2, 1), "b"), ((3,), ""), ((1, 2), "a")]:
                found = Pool(program, way, back=["g"]).outcome(boxes("a", "b", ""), cut=cut)
                self.assertEqual(found.world, ((("g",), contents),))

    def test_only_of_the_chunks_that_are_taken(self):
        program = Program("ab", ["g = {}"], [], ["g |= item", "if g == {ab}", "fail g", "end"])
        for way in WAYS:
            pool = Pool(program, way, back=["g"])
            found = pool.outcome(boxes("a", "", "ab", "b"), cut=(1, 1, 1, 1), dealing=(0, 0, 1, 1))
            self.assertEqual((found.failure, found.world), (("failed", 2, "ab", None), ((("g",), "a"),)))
            pool = Pool(program, way, back=["g"], workers=1)
            found = pool.outcome(boxes("", "b", "a", "b"), cut=(1, 3))
            self.assertEqual((found.failure, found.world), (("failed", 2, "ab", None), ((("g",), ""),)))
            self.assertEqual(pool.worker(0), ((("g",), "ab"),))

    def test_workers_do_not_see_what_was_brought(self):
        pool = Pool(KEEPS, "copied", back=["kept"])
        self.assertEqual(pool.map(boxes("a", "", "b", "")), ["a", "", "ab", ""])
        self.assertEqual((pool.rows(), pool.worker(1)), (((("kept",), "ab"),), ((("kept",), ""),)))

    def test_back_of_what_was_never_changed(self):
        program = Program("ab", ["g = {a}"], ["g = {b}"], [])
        self.assertEqual(Pool(program, "anew", back=["g"]).outcome(boxes("")).world, ((("g",), "ab"),))
        self.assertEqual(Pool(program, "copied", back=["g"]).outcome(boxes("")).world, ((("g",), "b"),))
        self.assertEqual(Pool(program, "anew", back=["g"]).outcome([]).world, ((("g",), "b"),))


if __name__ == "__main__":
    unittest.main()
