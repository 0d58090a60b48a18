"""Where the caller and the workers of a pool begin: point 19, with rows, worker and do of the interface."""

import itertools
import unittest

from helping import any_values, no_integers, raised
from workerworlds.errors import BadRow, NoWorker
from workerworlds.pools import Pool
from workerworlds.programs import Program

# The module shares g and h; the caller changes their box, binds g again and shares it with x.
SHARED = Program("Zab", ["g = {a}", "h = g", "k = {}"], ["h |= {b}", "g = {b}", "x = g", "k |= h"], [])


class Caller(unittest.TestCase):

    def test_a_copy_of_the_begun_world(self):
        for way in ("here", "copied", "anew"):
            pool = Pool(SHARED, way)
            self.assertEqual(pool.rows(), SHARED.begun().rows())
            self.assertEqual(pool.rows(), ((("g", "x"), "b"), (("h",), "ab"), (("k",), "ab")))

    def test_each_pool_has_its_own(self):
        for way, other in itertools.product(["here", "copied", "anew"], repeat=2):
            first, second = Pool(SHARED, way), Pool(SHARED, other)
            first.do("g |= {Z}")
            self.assertEqual(first.rows()[0], (("g", "x"), "Zb"))
            self.assertEqual((second.rows(), SHARED.begun().rows()), (Pool(SHARED, way).rows(),) * 2)


class Copied(unittest.TestCase):

    def test_the_globals_of_the_callers_world(self):
        pool = Pool(SHARED, "copied")
        for number in (0, 1):
            self.assertEqual(pool.worker(number), ((("g",), "b"), (("h",), "ab"), (("k",), "ab")))

    def test_names_that_share_a_box_go_on_sharing(self):
        program = Program("ab", ["g = {}", "h = {}", "k = {}"], ["x = {a}", "g = x", "k = x"], ["g |= item"])
        pool = Pool(program, "copied")
        self.assertEqual(pool.worker(0), ((("g", "k"), "a"), (("h",), "")))
        pool.map([("box", "b")])
        self.assertEqual(pool.worker(0), ((("g", "k"), "ab"), (("h",), "")))

    def test_bound_marks_are_copied_too(self):
        program = Program("Za", ["g = {Z}"], ["g |= {a}"], [])
        self.assertEqual(Pool(program, "copied").worker(1), ((("g",), "Za"),))

    def test_begin_has_no_effect(self):
        for names in [[], ["g"], ["h", "g"], ["g", "h", "k"]]:
            self.assertEqual(Pool(SHARED, "copied", begin=names).worker(0), Pool(SHARED, "copied").worker(0))

    def test_taken_when_the_pool_is_created(self):
        for renew in (False, True):
            pool = Pool(Program("ab", ["g = {}"], [], ["out = g"]), "copied", renew=renew)
            pool.do("g |= {a}")
            pool.do("g = {b}")
            self.assertEqual(pool.worker(0), ((("g",), ""),))
            self.assertEqual(pool.map([("box", "")] * 3), ["", "", ""])
            self.assertEqual((pool.worker(1), pool.rows()), (((("g",), ""),), ((("g",), "b"),)))


class Anew(unittest.TestCase):

    def test_the_imported_world(self):
        pool = Pool(SHARED, "anew")
        for number in (0, 1):
            self.assertEqual(pool.worker(number), ((("g", "h"), "a"), (("k",), "")))

    def test_nothing_of_the_caller(self):
        program = Program("Za", ["g = {}"], ["g = {Za}", "x = g"], ["out = g"])
        pool = Pool(program, "anew")
        self.assertEqual(pool.worker(0), ((("g",), ""),))
        self.assertEqual(pool.map([("box", "a")]), [""])

    def test_names_to_begin_with(self):
        wanted = {
            (): ((("g", "h"), "a"), (("k",), "")),
            ("g",): ((("g",), "b"), (("h",), "a"), (("k",), "")),
            ("h",): ((("g",), "a"), (("h",), "ab"), (("k",), "")),
            ("k",): ((("g", "h"), "a"), (("k",), "ab")),
            ("g", "h"): ((("g",), "b"), (("h",), "ab"), (("k",), "")),
            ("g", "k"): ((("g",), "b"), (("h",), "a"), (("k",), "ab")),
            ("h", "k"): ((("g",), "a"), (("h",), "ab"), (("k",), "ab")),
            ("g", "h", "k"): ((("g",), "b"), (("h",), "ab"), (("k",), "ab")),
        }
        for names, rows in wanted.items():
            for order in itertools.permutations(names):
                for given in (order, list(order)):
                    self.assertEqual(Pool(SHARED, "anew", begin=given).worker(0), rows)

    def test_names_that_share_a_box_in_the_callers_world(self):
        program = Program("ab", ["g = {}", "h = {}", "k = {a}"], ["h = g", "k = g", "g |= {b}"], ["g |= {a}"])
        rows = {
            ("g",): ((("g",), "b"), (("h",), ""), (("k",), "a")),
            ("g", "h"): ((("g", "h"), "b"), (("k",), "a")),
            ("h", "k"): ((("g",), ""), (("h", "k"), "b")),
            ("g", "h", "k"): ((("g", "h", "k"), "b"),),
        }
        for names, wanted in rows.items():
            for order in itertools.permutations(names):
                pool = Pool(program, "anew", begin=order)
                self.assertEqual(pool.worker(0), wanted)
                pool.map([("box", "")])
                changed = tuple((found, "ab" if "g" in found and contents == "b" else contents)
                                for found, contents in wanted)
                if "g" in names:
                    self.assertEqual((pool.worker(0), pool.worker(1)), (changed, wanted))

    def test_names_that_share_a_box_in_the_imported_world_alone(self):
        program = Program("ab", ["g = {}", "h = g", "k = g"], ["h = {b}"], [])
        self.assertEqual(Pool(program, "anew", begin=["g"]).worker(0), ((("g",), ""), (("h", "k"), "")))
        self.assertEqual(Pool(program, "anew", begin=["k", "g"]).worker(0), ((("g", "k"), ""), (("h",), "")))
        self.assertEqual(Pool(program, "anew", begin=["h", "g"]).worker(0), ((("g",), ""), (("h",), "b"), (("k",), "")))

    def test_copies_and_not_the_boxes_of_the_caller(self):
        program = Program("ab", ["g = {}"], [], ["g |= item", "out = g"])
        pool = Pool(program, "anew", begin=["g"])
        pool.do("g |= {b}")
        self.assertEqual(pool.map([("box", "a")]), ["a"])
        self.assertEqual(
            (pool.rows(), pool.worker(0), pool.worker(1)), (((("g",), "b"),), ((("g",), "a"),), ((("g",), ""),)))


class Workers(unittest.TestCase):

    def test_each_has_a_start_world_of_its_own(self):
        program = Program("ab", ["g = {}"], [], ["g |= item"])
        for way, begin in [("copied", ()), ("anew", ()), ("anew", ("g",))]:
            for workers in range(1, 10):
                pool = Pool(program, way, workers=workers, begin=begin)
                pool.outcome([("box", "a")], dealing=(workers - 1,))
                found = [pool.worker(at) for at in range(workers)]
                self.assertEqual(found, [((("g",), ""),)] * (workers - 1) + [((("g",), "a"),)])

    def test_no_worker(self):
        for workers in (1, 2, 9):
            for way in ("copied", "anew"):
                pool = Pool(SHARED, way, workers=workers)
                for thing in no_integers() + ["0", -1, workers, workers + 1, 10 ** 29, -(10 ** 29)]:
                    raised(self, NoWorker, {"number": thing}, pool.worker, thing)

    def test_none_here(self):
        for workers in (1, 2, 9):
            pool = Pool(SHARED, "here", workers=workers)
            for thing in any_values() + [0, 1, 2, 8, 9, -1]:
                raised(self, NoWorker, {"number": thing}, pool.worker, thing)

    def test_rows_are_not_changed_later(self):
        pool = Pool(Program("a", ["g = {}"], [], ["g |= item"]), "copied", workers=1, back=["g"])
        rows, others = pool.rows(), pool.worker(0)
        pool.map([("box", "a")])
        self.assertEqual((rows, others), (((("g",), ""),),) * 2)
        self.assertEqual((pool.rows(), pool.worker(0)), (((("g",), "a"),),) * 2)


class Do(unittest.TestCase):

    def test_plain_rows(self):
        for way in ("here", "copied", "anew"):
            pool = Pool(SHARED, way)
            workers = [] if way == "here" else [pool.worker(0), pool.worker(1)]
            for row, rows in [
                ("x |= {Z}", ((("g", "x"), "Zb"), (("h",), "ab"), (("k",), "ab"))),
                ("x = {}", ((("g",), "Zb"), (("h",), "ab"), (("k",), "ab"), (("x",), ""))),
                ("h = g & k", ((("g",), "Zb"), (("h",), "b"), (("k",), "ab"), (("x",), ""))),
                ("k = h", ((("g",), "Zb"), (("h", "k"), "b"), (("x",), ""))),
                ("k -= g", ((("g",), "Zb"), (("h", "k"), ""), (("x",), ""))),
                ("g ^= {ab}", ((("g",), "Za"), (("h", "k"), ""), (("x",), ""))),
                ("x = g | {b}", ((("g",), "Za"), (("h", "k"), ""), (("x",), "Zab"))),
                ("x &= {b}", ((("g",), "Za"), (("h", "k"), ""), (("x",), "b"))),
            ]:
                self.assertIsNone(pool.do(row))
                self.assertEqual(pool.rows(), rows)
            if workers:
                self.assertEqual([pool.worker(0), pool.worker(1)], workers)

    def test_wrong_rows(self):
        rows = [
            "", " ", "g", "g =", "g = ", "= g", "y = {}", "y = g", "g = y", "g |= y", "y |= g", "g = {c}", "g = {ba}",
            "g = {Z", "g = a", "g  = h", " g = h", "g = h ", "g == h", "if a in g", "else", "end", "stop", "fail g",
            "item = g", "out = g", "g = item", "g = out", "g |= item", "g = g + h", "g = g |= h", "g =| h", "g = h | y",
            "g = y | h", "g = h |", "G = {}", "x = {a} {b}", "g = h\n", "g = h\nx = g", "answer = g", "g = {a} - {c}",
        ]
        for way in ("here", "copied", "anew"):
            pool = Pool(SHARED, way)
            before = pool.rows()
            for row in rows + any_values():
                raised(self, BadRow, {"row": row}, pool.do, row)
            self.assertEqual(pool.rows(), before)

    def test_only_names_of_the_caller(self):
        pool = Pool(Program("a", ["g = {}"], [], []), "here")
        for row in ["x = {}", "x = g", "g = x", "g |= x"]:
            raised(self, BadRow, {"row": row}, pool.do, row)
        pool = Pool(Program("a", [], ["x = {}"], []), "here")
        pool.do("x |= {a}")
        raised(self, BadRow, {"row": "g = {}"}, pool.do, "g = {}")
        self.assertEqual(pool.rows(), ((("x",), "a"),))
        pool = Pool(Program("a", [], [], []), "copied")
        raised(self, BadRow, {"row": "x = {}"}, pool.do, "x = {}")

    def test_the_task_here_sees_what_the_caller_did(self):
        pool = Pool(Program("ab", ["g = {}"], ["x = {}"], ["out = g"]), "here")
        pool.do("g = x")
        pool.do("x |= {a}")
        self.assertEqual(pool.map([("box", "")]), ["a"])

    def test_what_is_sent_is_what_the_caller_has_now(self):
        for way in ("copied", "anew"):
            pool = Pool(Program("ab", ["g = {}"], ["x = {}"], ["out = item"]), way)
            pool.do("g |= {a}")
            pool.do("x = {b}")
            self.assertEqual(pool.map([("name", "g"), ("name", "x")]), ["a", "b"])


if __name__ == "__main__":
    unittest.main()
