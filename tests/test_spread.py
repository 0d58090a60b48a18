"""spread: point 33, and what the interface lists of it."""

import itertools
import random
import unittest

from calls import cuts_of, pool_settings
from drawn import drawn_letters, drawn_parts, drawn_settings, talking_parts
from helping import any_values, bad_setting, cannot_cross, raised, same_value, too_many
from pooled import ModelPool, Stays, alike_by, as_tuple
from programs_used import KEEPS
from wrong import PROGRAM, WRONG_ITEMS, wrong_settings
from workerworlds.errors import BadItem, BadSetting, CannotCross
from workerworlds.pools import Outcome, Pool
from workerworlds.programs import Program
from workerworlds.repairs import spread

A, NONE = ("box", "a"), ("box", "")


def model_spread(program, way, items, settings):
    """The spread, by pools of Python's own sets."""
    found = []
    for cut in cuts_of(len(items), settings.get("chunk", 1)):
        for dealing in itertools.product(range(settings.get("workers", 2)), repeat=len(cut)):
            outcome = ModelPool(program, way, **pool_settings(settings)).outcome(items, cut, dealing)
            if not any(alike_by(outcome, other, settings.get("seen", "all")) for other, _, _ in found):
                found.append((outcome, cut, dealing))
    return found


def as_tuples(found):
    return [(as_tuple(outcome), cut, dealing) for outcome, cut, dealing in found]


class Outcomes(unittest.TestCase):

    def spread(self, program, way, items, *wanted, **settings):
        """Asserts the answers, cuts and dealings, and gives the whole."""
        found = spread(program, way, items, **settings)
        self.assertIs(found.__class__, list)
        for row in found:
            self.assertEqual((row.__class__, len(row), row[0].__class__), (tuple, 3, Outcome))
        self.assertTrue(same_value(tuple((row[0].answers, *row[1:]) for row in found), wanted), found)
        self.assertTrue(same_value(as_tuples(found), model_spread(program, way, items, settings)))
        return found

    def test_even_cuts(self):
        self.spread(KEEPS, "copied", [A, NONE], (("a", "a"), (1, 1), (0, 0)), (("a", ""), (1, 1), (0, 1)))
        self.spread(KEEPS, "anew", [NONE, A], (("", "a"), (1, 1), (0, 0)))
        self.spread(
            KEEPS, "copied", [NONE, A, NONE], (("a", "a", "a"), (2, 1), (0, 0)), (("a", "a", ""), (2, 1), (0, 1)),
            chunk=2)
        self.spread(KEEPS, "copied", [NONE, A], (("a", "a"), (2,), (0,)), chunk=9, workers=9)
        self.spread(KEEPS, "copied", [NONE, A, NONE], (("", "a", "a"), (1, 1, 1), (0, 0, 0)), workers=1)

    def test_any_cut(self):
        self.spread(
            KEEPS, "copied", [NONE, A, NONE],
            (("", "a", "a"), (1, 1, 1), (0, 0, 0)), (("", "a", ""), (1, 1, 1), (0, 0, 1)),
            (("a", "a", "a"), (2, 1), (0, 0)),
            (("a", "a", ""), (2, 1), (0, 1)), chunk=None)

    def test_no_items(self):
        for chunk, workers in itertools.product([None, 1, 9], [1, 9]):
            found = self.spread(KEEPS, "copied", [], ((), (), ()), chunk=chunk, workers=workers)
            self.assertEqual(as_tuple(found[0][0]), ((), None, ((("kept",), ""),), ()))

    def test_by_what_is_seen(self):
        program = Program("ab", ["g = {}"], [], ["g ^= {a}"])
        found = self.spread(
            program, "copied", [NONE] * 2, (("", ""), (1, 1), (0, 0)), (("", ""), (2,), (0,)),
            back=["g"], chunk=None, workers=1)
        self.assertEqual([row[0].world for row in found], [((("g",), "a"),), ((("g",), ""),)])
        program = Program("ab", ["g = {}"], [], ["g ^= {a}", "g |= item"])
        items = [NONE, ("box", "b")]
        settings = {"back": ["g"], "chunk": None}
        found = self.spread(
            program, "copied", items, (("", ""), (1, 1), (0, 0)), (("", ""), (2,), (0,)), **settings)
        self.assertEqual([row[0].world for row in found], [((("g",), "ab"),), ((("g",), "b"),)])
        self.spread(program, "copied", items, (("", ""), (1, 1), (0, 0)), seen="answers", **settings)

    def test_failures(self):
        program = Program("ab", ["g = {}"], [], ["if a in g", "fail item from g", "end", "g |= item", "out = g"])
        found = self.spread(program, "anew", [A, ("box", "b")], (("a",), (1, 1), (0, 0)), (("a", "b"), (1, 1), (0, 1)))
        self.assertEqual([row[0].failure for row in found], [("failed", 1, "b", "a"), None])
        found = self.spread(
            program, "anew", [A, A, A], (("a",), (1, 1, 1), (0, 0, 0)), (("a", "a"), (1, 1, 1), (0, 1, 0)))
        self.assertEqual([row[0].failure[1] for row in found], [1, 2])

    def test_any_items(self):
        program = Program("Zab", ["g = {}"], ["x = {b}"], ["g |= item", "out = g"])
        items = [("name", "g"), ("box", "Z"), ("name", "x")]
        found = self.spread(program, "copied", items, (("",), (1, 1, 1), (0, 0, 0)))
        self.assertEqual(found[0][0].failure, ("crossing", 1, "item"))
        self.spread(
            program, "copied", [("name", "x"), ("name", "g")], (("b", "b"), (1, 1), (0, 0)),
            (("b", ""), (1, 1), (0, 1)))

    def test_the_first_that_lead_to_an_outcome(self):
        program = Program("a", ["g = {}"], [], ["g |= item", "out = g"])
        found = spread(program, "copied", [A, NONE, NONE], chunk=None, workers=3)
        told = [row[1:] for row in found]
        self.assertEqual(told, sorted(told))
        self.assertEqual(len(told), len(set(told)))

    def test_each_call_is_that_of_a_new_pool(self):
        program = Program("ab", ["g = {}"], [], ["if a in g", "g |= {b}", "end", "g |= {a}", "out = g"])
        self.spread(program, "copied", [NONE], (("a",), (1,), (0,)), back=["g"])

    def test_the_list_is_not_changed_and_may_be_later(self):
        items, begin, back = [A, NONE], ["kept"], ["kept"]
        found = spread(KEEPS, "anew", items, begin=begin, back=back)
        self.assertEqual((items, begin, back), ([A, NONE], ["kept"], ["kept"]))
        told = as_tuples(found)
        items.clear()
        found.append("later")
        self.assertEqual(as_tuples(spread(KEEPS, "anew", [A, NONE], begin=begin, back=back)), told)

    def test_outcomes_are_those_of_pools(self):
        for outcome, cut, dealing in spread(KEEPS, "copied", [A, NONE, A], chunk=None):
            again = Pool(KEEPS, "copied").outcome([A, NONE, A], cut=cut, dealing=dealing)
            self.assertEqual(as_tuple(again), as_tuple(outcome))
            self.assertTrue(outcome.alike(again))

    def test_by_name(self):
        found = spread(
            items=[A], way="anew", program=KEEPS, seen="answers", renew=True, back=["kept"], begin=(), chunk=None,
            workers=3)
        self.assertEqual(len(found), 1)
        with self.assertRaises(TypeError):
            spread(KEEPS, "copied", [], 2)


class Errors(unittest.TestCase):

    def test_as_walk(self):
        for what, thing in wrong_settings():
            call = {"program": PROGRAM, "way": "anew", "items": None, what: thing}
            bad_setting(self, what, spread, **call)
        cannot_cross(self, 0, "begin", spread, PROGRAM, "anew", None, begin=["k"])
        cannot_cross(self, 1, "begin", spread, PROGRAM, "anew", [NONE] * 13, begin=("g", "k"))

    def test_items(self):
        for thing in any_values() + [(A, NONE), A, None]:
            if not isinstance(thing, list):
                raised(self, BadItem, {"at": -1}, spread, PROGRAM, "copied", thing)
        program = Program("Zab", ["g = {}"], ["x = {}"], [])
        for thing in WRONG_ITEMS + any_values():
            raised(self, BadItem, {"at": 0}, spread, program, "copied", [thing])
            raised(self, BadItem, {"at": 1}, spread, program, "anew", [A, thing, thing])
        raised(self, BadItem, {"at": 13}, spread, program, "copied", [NONE] * 13 + [None])

    def test_more_than_twelve(self):
        for many in (13, 14, 120):
            bad_setting(self, "count", spread, KEEPS, "copied", [NONE] * many, workers=1)
            bad_setting(self, "count", spread, KEEPS, "copied", [NONE] * many, workers=9, chunk=None)
        self.assertEqual(len(spread(KEEPS, "copied", [NONE] * 12, workers=1)), 1)

    def pairs(self, count, chunk, workers):
        return sum(workers ** len(cut) for cut in cuts_of(count, chunk))

    def test_more_than_two_hundred_pairs(self):
        met, refused = set(), set()
        for count, workers in itertools.product(range(13), range(1, 10)):
            for chunk in [None, *range(1, 10)]:
                pairs = self.pairs(count, chunk, workers)
                if pairs > 200:
                    refused.add(pairs)
                    too_many(self, "dealings", spread, KEEPS, "copied", [NONE] * count, workers=workers, chunk=chunk)
                elif pairs > 60:
                    met.add(pairs)
                    found = spread(KEEPS, "copied", [NONE] * count, workers=workers, chunk=chunk)
                    self.assertEqual([row[2] for row in found], [(0,) * len(row[1]) for row in found])
        self.assertEqual((max(met), min(refused)), (192, 216))

    def test_the_order_of_the_errors(self):
        raised(self, BadItem, {"at": 12}, spread, KEEPS, "copied", [NONE] * 12 + [None])
        raised(self, BadSetting, {"what": "count"}, spread, KEEPS, "copied", [NONE] * 13, chunk=None)
        too_many(self, "dealings", spread, KEEPS, "copied", [NONE] * 12, chunk=None)
        bad_setting(self, "seen", spread, KEEPS, "copied", [NONE] * 12, chunk=None, seen="")


class BesideTheModel(unittest.TestCase):

    def compare(self, chance, draw, many):
        met = set()
        for _ in range(many):
            program, way = Program(*draw(chance)), chance.choice(["copied", "anew"])
            settings = drawn_settings(chance, program, way)
            items = drawn_letters(chance, program, chance.randrange(5))
            pairs = sum(settings["workers"] ** len(cut) for cut in cuts_of(len(items), settings["chunk"]))
            if pairs > 200:
                too_many(self, "dealings", spread, program, way, items, **settings)
                continue
            try:
                found = spread(program, way, items, **settings)
            except CannotCross as error:
                with self.assertRaises(Stays) as caught:
                    ModelPool(program, way, **pool_settings(settings))
                self.assertEqual((caught.exception.at, "begin"), (error.at, error.what))
                continue
            self.assertTrue(same_value(as_tuples(found), model_spread(program, way, items, settings)))
            met.add(min(len(found), 4))
        return met

    def test_programs_by_chance(self):
        self.assertLessEqual({1, 2}, self.compare(random.Random(81), drawn_parts, 300))

    def test_programs_that_tell_much(self):
        self.assertEqual({1, 2, 3, 4}, self.compare(random.Random(82), talking_parts, 300))


if __name__ == "__main__":
    unittest.main()
