"""Pool, its settings: point 19 and what the interface lists for the class."""

import itertools
import unittest

from helping import any_values, bad_setting, cannot_cross, same_value
from wrong import PROGRAM, RIGHT_NAMES, WRONG_NAMES, WRONG_NUMBERS
from workerworlds import pools
from workerworlds.pools import Outcome, Pool, Way, used
from workerworlds.programs import Program


class Interface(unittest.TestCase):

    def test_what_the_module_has(self):
        for thing in [pools.Pool, pools.Outcome, pools.Way, pools.used]:
            self.assertEqual(thing.__module__, "workerworlds.pools")
        listed = ["__init__", "__enter__", "__exit__", "is_open", "shut", "rows", "worker", "do", "outcome", "map",
                  "apply", "each"]
        for name in listed:
            self.assertIn(name, Pool.__dict__)
        self.assertIsInstance(Pool.__dict__["is_open"], property)
        self.assertIn("alike", Outcome.__dict__)
        self.assertIsInstance(Way.__dict__["known"], staticmethod)

    def test_ways(self):
        self.assertEqual((Way.HERE, Way.COPIED, Way.ANEW), ("here", "copied", "anew"))
        self.assertTrue(same_value(Way.known(), ("here", "copied", "anew")))

    def test_attributes(self):
        for way in Way.known():
            pool = Pool(PROGRAM, way)
            self.assertIs(pool.program, PROGRAM)
            self.assertTrue(same_value(pool.way, way))
            self.assertIs(pool.is_open, True)

    def test_by_name(self):
        pool = Pool(way="copied", program=PROGRAM, renew=True, back=["g"], begin=("h",), chunk=3, workers=4)
        self.assertEqual(len(pool.map(items=[("box", "")], dealing=(3,), cut=(1,))), 1)
        self.assertEqual(pool.worker(number=3), ((("g", "h"), "a"), (("k",), "Z")))
        self.assertIsNone(pool.do(row="x = g"))
        self.assertEqual(list(pool.each(items=[("box", "")], cut=None, dealing=None)), ["a"])
        outcome = pool.outcome(items=[], cut=(), dealing=())
        self.assertIs(outcome.alike(other=outcome, seen="all"), True)
        self.assertEqual(used(job=lambda held: held.way, pool=pool), "copied")
        with self.assertRaises(TypeError):
            Pool(PROGRAM, "copied", 2)
        with self.assertRaises(TypeError):
            pool.outcome([], ())


class Wrong(unittest.TestCase):

    def each_way(self, what, thing, **others):
        for way in ("here", "copied", "anew"):
            with self.subTest(what=what, way=way, thing=str(thing)[:40]):
                bad_setting(self, what, Pool, PROGRAM, way, **{what: thing}, **others)

    def test_way(self):
        for thing in any_values() + ["Here", "HERE", "here ", "", "all", ["here"], ("anew",), Way]:
            if not isinstance(thing, str) or thing not in ("here", "copied", "anew"):
                bad_setting(self, "way", Pool, PROGRAM, thing)
                bad_setting(self, "way", Pool, way=thing, program=PROGRAM)

    def test_workers(self):
        for thing in WRONG_NUMBERS:
            self.each_way("workers", thing)

    def test_chunk(self):
        for thing in WRONG_NUMBERS:
            self.each_way("chunk", thing)

    def test_begin_and_back(self):
        for what in ("begin", "back"):
            for thing in WRONG_NAMES + any_values():
                if thing not in ([], (), ["g", "h"]):
                    self.each_way(what, thing)

    def test_renew(self):
        for thing in any_values():
            if thing is not True and thing is not False:
                self.each_way("renew", thing)

    def test_a_program_without_globals(self):
        program = Program("a", [], ["x = {}"], [])
        for names in (["x"], ("x",), ["item"], [""]):
            bad_setting(self, "begin", Pool, program, "anew", begin=names)
            bad_setting(self, "back", Pool, program, "copied", back=names)
        Pool(program, "anew", begin=[], back=[])

    def test_the_first_of_several(self):
        wrong = {"way": "there", "workers": 0, "chunk": True, "begin": ["x"], "back": "g", "renew": 1}
        right = {"way": "anew", "workers": 1, "chunk": 9, "begin": ["g"], "back": ("h",), "renew": False}
        names = list(wrong)
        for bits in itertools.product([False, True], repeat=6):
            settings = {name: wrong[name] if bad else right[name] for name, bad in zip(names, bits)}
            if any(bits):
                bad_setting(self, names[bits.index(True)], Pool, PROGRAM, **settings)
            else:
                Pool(PROGRAM, **settings)


class Right(unittest.TestCase):

    def test_numbers_of_workers(self):
        for workers in range(1, 10):
            for way in ("copied", "anew"):
                pool = Pool(PROGRAM, way, workers=workers)
                self.assertEqual([pool.worker(at) for at in range(workers)], [pool.worker(0)] * workers)
            Pool(PROGRAM, "here", workers=workers)

    def test_chunks(self):
        for chunk in range(1, 10):
            for way in ("here", "copied", "anew"):
                pool = Pool(PROGRAM, way, chunk=chunk, workers=1)
                self.assertEqual(pool.map([("box", "")] * 10), ["a"] * 10)

    def test_names(self):
        for names in RIGHT_NAMES:
            for thing in (names, tuple(names)):
                for way in ("here", "copied", "anew"):
                    Pool(PROGRAM, way, back=thing)
                    if way != "anew" or "k" not in names:
                        Pool(PROGRAM, way, begin=thing)

    def test_defaults(self):
        pool = Pool(Program("a", ["g = {}"], [], ["g |= item", "out = g"]), "copied")
        outcome = pool.outcome([("box", "a"), ("box", ""), ("box", "")])
        self.assertEqual(outcome.answers, ("a", "", "a"))
        self.assertEqual(
            (pool.worker(0), pool.worker(1), pool.rows()), (((("g",), "a"),), ((("g",), ""),), ((("g",), ""),)))

    def test_lists_may_be_changed_later(self):
        program = Program("ab", ["g = {}", "h = {}"], ["g = {b}"], ["g |= item", "h |= item", "out = g"])
        begin, back = ["g"], ["h"]
        pool = Pool(program, "anew", begin=begin, back=back)
        begin.append("x")
        back[0] = "g"
        self.assertEqual(pool.outcome([("box", "a")]).answers, ("ab",))
        self.assertEqual(pool.rows(), ((("g",), "b"), (("h",), "a")))
        back.clear()
        self.assertEqual(pool.outcome([("box", "b")]).world, ((("g",), "b"), (("h",), "ab")))
        self.assertEqual((begin, back), (["g", "x"], []))

    def test_lists_are_not_changed(self):
        begin, back = ["g", "h"], ["h", "g"]
        Pool(PROGRAM, "anew", begin=begin, back=back).map([("box", "a")] * 3)
        self.assertEqual((begin, back), (["g", "h"], ["h", "g"]))


class BeginThatCannotCross(unittest.TestCase):

    def test_the_first_index_in_begin(self):
        program = Program("Zab", ["g = {}", "h = {Z}", "k = {a}"], ["k |= {Z}"], [])
        for names in RIGHT_NAMES:
            wrong = [at for at, name in enumerate(names) if name in ("h", "k")]
            for given in (names, tuple(names)):
                if wrong:
                    cannot_cross(self, wrong[0], "begin", Pool, program, "anew", begin=given)
                else:
                    Pool(program, "anew", begin=given)

    def test_for_no_other_way(self):
        for names in RIGHT_NAMES:
            for way in ("here", "copied"):
                self.assertEqual(Pool(PROGRAM, way, begin=names).rows(), PROGRAM.begun().rows())

    def test_behind_all_bad_settings(self):
        for what, thing in [("workers", 0), ("chunk", 0), ("begin", ["k", "x"]), ("back", ["x"]), ("renew", 1)]:
            bad_setting(self, what, Pool, PROGRAM, "anew", **{"begin": ["k"], what: thing})
        cannot_cross(self, 0, "begin", Pool, PROGRAM, "anew", begin=["k"])

    def test_what_the_caller_has_and_not_what_the_module_has(self):
        module = ["g = {Z}", "h = g"]
        crosses_now = Program("Za", module, ["g -= {Z}"], [])
        bound_again = Program("Za", module, ["h = {a}"], [])
        self.assertEqual(Pool(crosses_now, "anew", begin=["g", "h"]).worker(0), ((("g", "h"), ""),))
        self.assertEqual(Pool(bound_again, "anew", begin=["h"]).worker(1), ((("g",), "Z"), (("h",), "a")))
        cannot_cross(self, 1, "begin", Pool, bound_again, "anew", begin=["h", "g"])


if __name__ == "__main__":
    unittest.main()
