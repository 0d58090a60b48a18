"""The calls of a pool: wrong items, cuts and dealings, map, apply, each, closing and used."""

import itertools
import unittest

from helping import any_values, cannot_cross, raised, same_value
from pooled import as_tuple
from wrong import WRONG_ITEMS
from workerworlds.errors import BadCut, BadDealing, BadItem, BadRow, Closed, TaskFailed
from workerworlds.pools import Pool, used
from workerworlds.programs import Program

WAYS = ("here", "copied", "anew")
PROGRAM = Program(
    "Zab", ["g = {}"], ["x = {}"],
    ["if {ab} <= item", "fail item from g", "end", "g |= item", "item |= {b}", "out = g"])
A, B, NONE, FAILS = ("box", "a"), ("box", "b"), ("box", ""), ("box", "ab")


def states(pool):
    """All that a call may change."""
    return pool.rows(), [] if pool.way == "here" else [pool.worker(0), pool.worker(1)]


def each_pool():
    """Pools with the calls that all take the same arguments."""
    for way in WAYS:
        pool = Pool(PROGRAM, way, chunk=2, back=["g"])
        pool.do("g |= {b}")
        yield pool, [pool.outcome, pool.map, lambda items, **call: list(pool.each(items, **call))]


class Refused(unittest.TestCase):

    def refused(self, error, at, items, **call):
        for pool, calls in each_pool():
            before = states(pool)
            for run in calls:
                raised(self, error, {"at": at}, run, items, **call)
            self.assertEqual(states(pool), before)

    def applied(self, error, at, items, **call):
        for way in WAYS:
            raised(self, error, {"at": at}, Pool(PROGRAM, way, chunk=2).apply, *items, **call)


class Items(Refused):

    def test_no_list(self):
        for thing in any_values() + [(A,), (A, B), A, "box", {}, {"box": "a"}]:
            if not isinstance(thing, list):
                self.refused(BadItem, -1, thing)

    def test_each_wrong_entry(self):
        for thing in WRONG_ITEMS + [thing for thing in any_values()]:
            self.refused(BadItem, 0, [thing])
            self.refused(BadItem, 2, [A, ("name", "x"), thing, A, thing])
            self.applied(BadItem, 1, [A, thing, thing])

    def test_right_items(self):
        for way, names in itertools.product(WAYS, (["g", "x"], ["x"])):
            items = [("box", contents) for contents in ["", "a", "b", "Z", "Za", "Zb"]]
            for item in items + [("name", name) for name in names]:
                self.assertEqual(len(Pool(PROGRAM, way).outcome([item]).passed), 1)

    def test_marks_and_names_of_this_program(self):
        pool = Pool(Program("q", [], [], []), "here")
        self.assertEqual(pool.map([("box", "q"), ("box", "")]), ["", ""])
        for item in [("box", "a"), ("name", "g"), ("name", "q")]:
            raised(self, BadItem, {"at": 1}, pool.outcome, [("box", "q"), item])

    def test_a_list_is_not_changed(self):
        for pool, calls in each_pool():
            items = [A, ("name", "x"), FAILS, B]
            for run in calls[:1]:
                run(items)
            self.assertTrue(same_value(items, [A, ("name", "x"), FAILS, B]))


class CutsOfCalls(Refused):

    WRONG = [
        # items, cut, at
        (0, (1,), 0), (0, (0,), 0), (1, (), 0), (1, (2,), 0), (1, (0,), 0), (1, (1, 1), 1), (1, (1, 0), 1),
        (2, (1,), 1),
        (2, (), 0), (2, (3,), 0), (2, (1, 2), 1), (2, (2, 1), 1), (2, (2, 0), 1), (2, (1, 0, 1), 1), (2, (-1, 3), 0),
        (3, (1, 1), 2), (3, (1, 3), 1), (3, (4,), 0), (3, (2, 2), 1), (3, (2, 1, 1), 2), (3, (1, 1, 1, 1), 3),
        (3, (True, 2), 0), (3, (2, True), 1), (3, (1, None, 1), 1), (3, (1, "1", 1), 1), (3, (1, (1,), 1), 1),
        (3, ([1], 2), 0), (3, ("a",), 0), (3, (10 ** 29,), 0), (3, (-(10 ** 29),), 0), (3, (2, False), 1),
        (4, (2, 1), 2),
        (4, (2, 3), 1), (4, (5,), 0), (4, (3,), 1), (4, (1, 1, 1), 3), (4, (1, 1, 1, 2), 3),
    ]

    def test_each_wrong_cut(self):
        for many, cut, at in self.WRONG:
            self.refused(BadCut, at, [A] * many, cut=cut)
            self.applied(BadCut, at, [A] * many, cut=cut)

    def test_no_tuple(self):
        for thing in any_values() + [[1, 1], [2], 2, "11", {}, {1: 1}]:
            if thing is not None and not isinstance(thing, tuple):
                self.refused(BadCut, -1, [A, A], cut=thing)
                self.refused(BadCut, -1, [], cut=thing)

    def test_tuples_of_any_values(self):
        for thing in any_values():
            if thing != 1 or thing is True:
                self.refused(BadCut, 0, [A, A], cut=(thing, 1))
                self.refused(BadCut, 1, [A, A], cut=(1, thing))

    def test_all_short_tuples(self):
        for many in range(4):
            for size in range(5):
                for cut in itertools.product((0, 1, 2, 3), repeat=size):
                    at, left = 0, many
                    while at < size and 1 <= cut[at] <= left:
                        left -= cut[at]
                        at += 1
                    if at < size or left:
                        raised(self, BadCut, {"at": at}, Pool(PROGRAM, "copied").outcome, [A] * many, cut=cut)
                    else:
                        self.assertEqual(len(Pool(PROGRAM, "copied").map([A] * many, cut=cut)), many)


class DealingsOfCalls(Refused):

    WRONG = [
        # cut of three items, dealing, at
        ((3,), (), 0), ((3,), (0, 0), 1), ((3,), (2,), 0), ((3,), (-1,), 0), ((3,), (True,), 0), ((3,), (None,), 0),
        ((1, 2), (0,), 1), ((1, 2), (0, 1, 0), 2), ((1, 2), (0, 2), 1), ((1, 2), (2, 2), 0), ((1, 2), (0, False), 1),
        ((1, 2), ("0", 0), 0), ((1, 2), ((0,), 0), 0), ((1, 2), ([0], 0), 0), ((1, 2), (1, 10 ** 29), 1),
        ((1, 1, 1), (0, 0), 2), ((1, 1, 1), (0, 0, 0, 9), 3), ((1, 1, 1), (1, 1, -2), 2), ((1, 1, 1), (), 0),
        # The even cut by two has two chunks.
        (None, (0,), 1), (None, (0, 0, 0), 2), (None, (1, 2), 1), (None, (), 0), (None, (3, 0, 0), 0),
    ]

    def test_each_wrong_dealing(self):
        for cut, dealing, at in self.WRONG:
            self.refused(BadDealing, at, [A] * 3, cut=cut, dealing=dealing)
            self.applied(BadDealing, at, [A] * 3, cut=cut, dealing=dealing)

    def test_no_items(self):
        self.refused(BadDealing, 0, [], dealing=(0,))
        self.refused(BadDealing, 0, [], cut=(), dealing=(0, 1))
        for pool, _ in each_pool():
            self.assertEqual(pool.map([], dealing=()), [])
            self.assertEqual(pool.map([], cut=(), dealing=()), [])
            self.assertEqual(pool.map([], cut=()), [])

    def test_no_tuple(self):
        for thing in any_values() + [[0], [0, 1], 0, 1, "01", {}, {0: 1}]:
            if thing is not None and not isinstance(thing, tuple):
                self.refused(BadDealing, -1, [A, A], dealing=thing)
                self.refused(BadDealing, -1, [], dealing=thing)

    def test_numbers_of_the_workers_of_this_pool(self):
        for way, workers in itertools.product(WAYS, range(1, 10)):
            pool = Pool(PROGRAM, way, workers=workers)
            for number in range(workers):
                self.assertEqual(len(pool.map([NONE], dealing=(number,))), 1)
            for number in (workers, workers + 1, -1):
                raised(self, BadDealing, {"at": 0}, pool.outcome, [NONE], dealing=(number,))

    def test_the_order_of_the_errors(self):
        self.refused(BadItem, 0, [None], cut=[], dealing=[])
        self.refused(BadItem, -1, None, cut=(9,), dealing=(9,))
        self.refused(BadItem, 1, [A, None], cut=(1,), dealing=None)
        self.refused(BadCut, -1, [A], cut=[1], dealing=[0])
        self.refused(BadCut, 1, [A, A], cut=(1,), dealing=(0, 1, 1))
        self.refused(BadCut, 0, [A], cut=(2,), dealing=(9,))
        self.refused(BadDealing, 0, [A, A], cut=(1, 1), dealing=(9,))


class Defaults(unittest.TestCase):

    KEEPS = Program("ab", ["kept = {}"], [], ["kept |= item", "out = kept"])

    def test_the_even_cut_and_in_turn(self):
        items = [A, NONE, B, NONE, NONE, A, NONE]
        for chunk, workers in itertools.product(range(1, 10), range(1, 10)):
            left = 7 % chunk
            cut = (chunk,) * (7 // chunk) + ((left,) if left else ())
            dealing = (tuple(range(workers)) * 7)[:len(cut)]
            told = {"cut": cut, "dealing": dealing}
            wanted = Pool(self.KEEPS, "copied", chunk=chunk, workers=workers).map(items, **told)
            for names in itertools.chain.from_iterable(itertools.combinations(told, many) for many in range(2)):
                pool = Pool(self.KEEPS, "copied", chunk=chunk, workers=workers)
                self.assertEqual(pool.map(items, **{name: told[name] for name in names}), wanted)
            # None is as good as nothing.
            pool = Pool(self.KEEPS, "copied", chunk=chunk, workers=workers)
            self.assertEqual(pool.map(items, cut=None, dealing=None), wanted)

    def test_in_turn_for_a_cut_that_is_told(self):
        pool = Pool(self.KEEPS, "copied", chunk=9)
        self.assertEqual(pool.map([A, B, NONE, NONE], cut=(1, 1, 2)), ["a", "b", "a", "a"])

    def test_a_hundred_and_twenty_items(self):
        items = [A, NONE, B] * 40
        for way in WAYS:
            for chunk, workers in [(1, 1), (1, 9), (7, 2), (9, 9)]:
                pool = Pool(self.KEEPS, way, chunk=chunk, workers=workers)
                found = pool.outcome(items)
                self.assertEqual((len(found.answers), found.failure), (120, None))
                self.assertEqual(found.passed, ("a", "", "b") * 40)
            self.assertEqual(len(Pool(self.KEEPS, way).map(items, cut=(1,) * 120, dealing=(0, 1) * 60)), 120)
            self.assertEqual(Pool(self.KEEPS, way).map(items, cut=(120,)), ["ab"] * 120)
            raised(self, BadItem, {"at": 120}, Pool(self.KEEPS, way).map, items + [None])
            raised(self, BadCut, {"at": 120}, Pool(self.KEEPS, way).map, items, cut=(1,) * 121)
            raised(self, BadDealing, {"at": 119}, Pool(self.KEEPS, way).map, items, dealing=(1,) * 119)


class MapAndApply(unittest.TestCase):

    def test_answers(self):
        for way in WAYS:
            one, other = Pool(PROGRAM, way), Pool(PROGRAM, way)
            found = one.map([A, ("name", "x"), B])
            self.assertIs(found.__class__, list)
            self.assertEqual(other.apply(A, ("name", "x"), B), found)
            self.assertEqual(found, ["ab", "ab", "ab"] if way == "here" else ["a", "", "ab"])
            self.assertEqual(states(one), states(other))
            found.append("later")
            self.assertEqual(other.outcome([NONE]).answers, tuple(one.map([NONE])))
            self.assertEqual((one.apply(), one.map([])), ([], []))

    def test_cut_and_dealing(self):
        for cut, dealing in [((2, 1), (1, 0)), ((1, 2), (0, 0)), (None, (1, 1, 1)), ((3,), None)]:
            wanted = Pool(PROGRAM, "copied").outcome([A, B, NONE], cut=cut, dealing=dealing).answers
            self.assertEqual(Pool(PROGRAM, "copied").map([A, B, NONE], cut=cut, dealing=dealing), list(wanted))
            self.assertEqual(Pool(PROGRAM, "copied").apply(A, B, NONE, cut=cut, dealing=dealing), list(wanted))

    def test_failures(self):
        for way in WAYS:
            for run in (lambda pool, *items: pool.map(list(items)), lambda pool, *items: pool.apply(*items)):
                pool = Pool(PROGRAM, way, back=["g"], workers=1)
                raised(self, TaskFailed, {"at": 2, "told": "ab", "cause": "a"}, run, pool, A, NONE, FAILS, B)
                # What the call has done stays.
                self.assertEqual(pool.rows(), ((("g",), "a"), (("x",), "")))
                self.assertEqual(pool.map([NONE]), ["a" if way == "here" else "ab"])

    def test_no_cause(self):
        program = Program("a", [], [], ["fail item"])
        for way in WAYS:
            raised(self, TaskFailed, {"at": 0, "told": "a", "cause": None}, Pool(program, way).map, [A, NONE])

    def test_crossing(self):
        programs = {
            "item": Program("Za", ["g = {}"], ["x = {Z}"], []),
            "error": Program("Za", ["g = {}"], ["x = {}"], ["fail {Z}"]),
            "answer": Program("Za", ["g = {}"], ["x = {}"], ["out = {Z}"]),
            "back": Program("Za", ["g = {}"], ["x = {}"], ["g = {Z}"]),
        }
        for way in ("copied", "anew"):
            for what, program in programs.items():
                cannot_cross(self, 0, what, Pool(program, way, back=["g"]).map, [("name", "x"), A])
                cannot_cross(self, 0, what, Pool(program, way, back=["g"]).apply, ("name", "x"), A)
                at = 1 if what == "back" else 0
                cannot_cross(self, at, what, Pool(program, way, back=["g"], chunk=2).map, [("name", "x"), A])
                cannot_cross(self, 1, "item", Pool(programs["item"], way).map, [A, ("name", "x")])

    def test_a_failed_call_has_been_a_call(self):
        pool = Pool(PROGRAM, "copied", workers=1)
        with self.assertRaises(TaskFailed):
            pool.map([A, FAILS])
        self.assertEqual(pool.map([NONE]), ["a"])


class Each(unittest.TestCase):

    def test_the_answers_in_order(self):
        for way in WAYS:
            items = [A, ("name", "x"), B]
            self.assertEqual(list(Pool(PROGRAM, way).each(items)), Pool(PROGRAM, way).map(items))
            self.assertEqual(list(Pool(PROGRAM, way).each([])), [])
        self.assertEqual(
            list(Pool(PROGRAM, "copied").each([A, B, NONE], cut=(1, 2), dealing=(1, 1))), ["a", "ab", "ab"])

    def test_nothing_is_done_before_it_is_iterated(self):
        for way in WAYS:
            pool = Pool(PROGRAM, way, workers=2)
            before = states(pool)
            found = pool.each([A])
            self.assertEqual(states(pool), before)
            self.assertEqual(next(found), "a")
            self.assertNotEqual(states(pool), before)
            self.assertEqual(list(found), [])

    def test_it_reads_its_arguments_when_it_is_first_iterated(self):
        pool = Pool(PROGRAM, "copied")
        items = [A]
        found, wrong = pool.each(items), pool.each(items)
        items += [B, NONE]
        self.assertEqual(next(found), "a")
        items.append(None)
        self.assertEqual(list(found), ["b", "a"])
        raised(self, BadItem, {"at": 3}, next, wrong)

    def test_errors_when_it_is_iterated(self):
        for way in WAYS:
            pool = Pool(PROGRAM, way)
            for error, at, items, call in [
                (BadItem, -1, None, {}), (BadItem, 0, [0], {}), (BadCut, -1, [A], {"cut": 1}),
                (BadCut, 0, [A], {"cut": (2,)}),
                (BadDealing, 0, [A], {"dealing": (2,)}),
            ]:
                found = pool.each(items, **call)
                raised(self, error, {"at": at}, next, found)

    def test_the_whole_call_is_done_first(self):
        for way in WAYS:
            pool, other = Pool(PROGRAM, way, back=["g"]), Pool(PROGRAM, way, back=["g"])
            found = pool.each([A, B, NONE])
            next(found)
            other.map([A, B, NONE])
            self.assertEqual(states(pool), states(other))
            pool.do("g = {Z}")
            pool.outcome([B, B])
            self.assertEqual(list(found), ["ab", "ab"] if way == "here" else ["b", "a"])

    def test_the_failure_behind_the_answers(self):
        for way in WAYS:
            pool = Pool(PROGRAM, way, back=["g"])
            found = pool.each([A, NONE, FAILS, B])
            self.assertEqual([next(found), next(found)], ["a", "a"] if way == "here" else ["a", ""])
            raised(self, TaskFailed, {"at": 2, "told": "ab", "cause": "a"}, next, found)
            self.assertEqual(list(found), [])
            self.assertEqual(pool.rows(), ((("g",), "a"), (("x",), "")))
        found = Pool(PROGRAM, "anew").each([A, ("box", "Z"), A])
        self.assertEqual(next(found), "a")
        cannot_cross(self, 1, "item", next, found)
        self.assertEqual(list(found), [])

    def test_a_pool_that_is_closed_meanwhile(self):
        for way in WAYS:
            pool = Pool(PROGRAM, way)
            found, failing = pool.each([A, NONE, NONE]), pool.each([NONE, FAILS])
            never = pool.each([A])
            next(found), next(failing)
            pool.shut()
            self.assertEqual(len(list(found)), 2)
            raised(self, TaskFailed, {"at": 1}, next, failing)
            raised(self, Closed, {}, next, never)


class Closing(unittest.TestCase):

    def closed(self, pool):
        """A closed pool raises Closed ahead of all other errors."""
        self.assertIs(pool.is_open, False)
        before = states(pool)
        for thing in [[A], [], None, [None]]:
            for call in [{}, {"cut": 0}, {"dealing": 0}]:
                raised(self, Closed, {}, pool.outcome, thing, **call)
                raised(self, Closed, {}, pool.map, thing, **call)
                raised(self, Closed, {}, pool.apply, thing, **call)
                found = pool.each(thing, **call)
                raised(self, Closed, {}, next, found)
        for row in ["g = {}", "wrong", None]:
            raised(self, Closed, {}, pool.do, row)
        self.assertEqual(states(pool), before)

    def test_shut(self):
        for way in WAYS:
            pool = Pool(PROGRAM, way)
            self.assertIs(pool.is_open, True)
            pool.map([A])
            before = states(pool)
            self.assertIsNone(pool.shut())
            self.assertEqual(states(pool), before)
            self.closed(pool)
            self.assertIsNone(pool.shut())
            self.closed(pool)
            self.assertEqual((pool.program, pool.way), (PROGRAM, way))

    def test_other_pools_stay_open(self):
        one, other = Pool(PROGRAM, "copied"), Pool(PROGRAM, "copied")
        one.shut()
        self.assertIs(other.is_open, True)
        self.assertEqual(other.map([A]), ["a"])

    def test_with(self):
        for way in WAYS:
            pool = Pool(PROGRAM, way)
            with pool as held:
                self.assertIs(held, pool)
                self.assertIs(pool.is_open, True)
                held.map([A])
                held.do("g |= {b}")
            self.closed(pool)

    def test_with_and_an_error(self):
        for way in WAYS:
            for error in (KeyError, BadRow):
                pool, raising = Pool(PROGRAM, way), error("told")
                with self.assertRaises(error) as caught:
                    with pool:
                        raise raising
                self.assertIs(caught.exception, raising)
                self.closed(pool)
            pool = Pool(PROGRAM, way)
            with self.assertRaises(TaskFailed):
                with pool:
                    pool.map([FAILS])
            self.closed(pool)

    def test_with_a_closed_pool(self):
        pool = Pool(PROGRAM, "copied")
        pool.shut()
        with pool as held:
            self.assertIs(held, pool)
            self.closed(pool)
        self.closed(pool)

    def test_with_in_with_and_shut_inside(self):
        pool = Pool(PROGRAM, "copied")
        with pool:
            with pool:
                pool.map([A])
            self.closed(pool)
        pool = Pool(PROGRAM, "copied")
        with pool:
            pool.shut()
            self.closed(pool)
        self.closed(pool)


class Used(unittest.TestCase):

    def test_what_the_job_returns(self):
        for way in WAYS:
            pool, kept = Pool(PROGRAM, way), []

            def job(held):
                kept.append((held, held.is_open))
                return held.map([A])

            self.assertEqual(used(pool, job), ["a"])
            self.assertEqual(kept, [(pool, True)])
            self.assertIs(pool.is_open, False)
            self.assertIsNone(used(pool, lambda held: None))
            raised(self, Closed, {}, used, pool, job)

    def test_errors_of_the_job(self):
        for way in WAYS:
            pool = Pool(PROGRAM, way)
            raised(self, TaskFailed, {"at": 1}, used, pool, lambda held: held.map([NONE, FAILS]))
            self.assertIs(pool.is_open, False)
            pool = Pool(PROGRAM, way)
            with self.assertRaises(ZeroDivisionError):
                used(pool, lambda held: 1 // 0)
            self.assertIs(pool.is_open, False)

    def test_a_generator_of_the_job(self):
        pool = Pool(PROGRAM, "copied")
        found = used(pool, lambda held: held.each([A]))
        raised(self, Closed, {}, next, found)
        pool = Pool(PROGRAM, "copied")
        self.assertEqual(used(pool, lambda held: list(held.each([A, B]))), ["a", "b"])

    def test_the_outcome_of_the_job(self):
        found = used(Pool(PROGRAM, "anew"), lambda held: held.outcome([A, FAILS]))
        self.assertEqual(as_tuple(found), (("a",), ("failed", 1, "ab", ""), ((("g",), ""), (("x",), "")), ("a", "ab")))


if __name__ == "__main__":
    unittest.main()
