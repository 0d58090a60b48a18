"""Certificates: point 31, by judge and by is_certificate."""

import itertools
import random
import unittest

from bent import bent
from calls import all_calls, cuts_of, many_calls, model_parts, pool_settings
from drawn import drawn_settings, talking_parts
from helping import any_values, bad_setting, cannot_cross, same_value, too_many
from pooled import ModelPool, as_tuple
from programs_used import COUNT, KEEPS, SHIFT, TELL_FIFTEEN, counting, shifting
from wrong import PROGRAM, wrong_settings
from workerworlds.errors import CannotCross, TooMany
from workerworlds.judging import is_certificate, judge
from workerworlds.pools import Pool
from workerworlds.programs import Program


# Programs with ways and settings; their pools are parted by one to four items, or alike.
CASES = [
    (KEEPS, "copied", {"seen": "answers"}),
    (KEEPS, "copied", {"seen": "answers", "workers": 1, "chunk": 2}),
    (KEEPS, "anew", {"workers": 3, "chunk": None}),
    (KEEPS, "anew", {"workers": 1, "chunk": 3, "renew": True, "seen": "answers"}),
    (KEEPS, "copied", {"workers": 1, "chunk": 1, "renew": True, "back": ["kept"], "seen": "answers"}),
    (Program("a", ["g = {}"], [], ["g |= item"]), "copied", {"back": ["g"], "chunk": None}),
    (Program("a", [], ["x = {}"], ["item |= {a}", "out = item"]), "copied", {"seen": "answers", "chunk": 2}),
    (Program("Za", [], ["x = {Z}"], ["out = item - {Z}"]), "anew", {}),
    (Program("ab", ["g = {}"], ["g = {a}"], ["out = g"]), "anew", {"begin": ["g"]}),
    (Program("ab", ["g = {}"], ["g = {a}"], ["out = g"]), "anew", {}),
    (Program("a", ["g = {}", "h = {}"], [], ["out = h | {}", "h = g | {}", "g = item"]), "copied", {"seen": "answers"}),
    (Program("a", [], [], ["out = item"]), "copied", {"chunk": None}),
]


class OfJudge(unittest.TestCase):

    def test_a_parted_one_tells_a_new_pool_from_the_loop(self):
        for program, way, settings in CASES:
            verdict = judge(program, way, **settings)
            self.assertIs(is_certificate(program, way, verdict.certificate, **settings), True)
            if not verdict:
                _, items, cut, dealing = verdict.certificate
                loop = Pool(program, "here").outcome(list(items))
                pool = Pool(program, way, **pool_settings(settings)).outcome(list(items), cut=cut, dealing=dealing)
                self.assertIs(pool.alike(loop, seen=settings.get("seen", "all")), False)
                self.assertTrue(model_parts(program, way, settings, items, cut, dealing))
                self.assertTrue(all(item in program.letters() for item in items))
                self.assertIn(cut, cuts_of(len(items), settings.get("chunk", 1)))

    def test_no_shorter_list_parts_it(self):
        for program, way, settings in CASES:
            verdict = judge(program, way, **settings)
            for count in range(len(verdict) if not verdict else 3):
                for items, cut, dealing in all_calls(program, settings, count):
                    self.assertFalse(model_parts(program, way, settings, items, cut, dealing))

    def test_programs_by_chance(self):
        chance, met = random.Random(61), set()
        for _ in range(500):
            program, way = Program(*talking_parts(chance)), chance.choice(["copied", "anew"])
            settings = drawn_settings(chance, program, way)
            try:
                verdict = judge(program, way, **settings)
            except (TooMany, CannotCross):
                continue
            self.assertIs(is_certificate(program, way, verdict.certificate, **settings), True)
            if not verdict:
                _, items, cut, dealing = verdict.certificate
                self.assertTrue(model_parts(program, way, settings, items, cut, dealing))
                pool = Pool(program, way, **pool_settings(settings)).outcome(list(items), cut=cut, dealing=dealing)
                loop = Pool(program, "here").outcome(list(items))
                self.assertEqual(as_tuple(loop), ModelPool(program, "here").outcome(items))
                self.assertFalse(pool.alike(loop, seen=settings["seen"]))
                met.add(len(items))
        self.assertLessEqual({1, 2, 3, 4}, met)

    def test_more_than_twelve_items(self):
        program = counting(0, COUNT + TELL_FIFTEEN)
        for settings in [
            {"workers": 1, "renew": True, "chunk": 1}, {"workers": 1, "renew": True, "chunk": 9},
            {"workers": 2, "chunk": 3},
        ]:
            verdict = judge(program, "copied", seen="answers", **settings)
            word, items, cut, dealing = verdict.certificate
            self.assertEqual(len(items), 15)
            self.assertTrue(is_certificate(program, "copied", verdict.certificate, seen="answers", **settings))
            # All letters do the same here.
            others = tuple(program.letters()[at % 4] for at in range(15))
            self.assertTrue(is_certificate(program, "copied", (word, others, cut, dealing), seen="answers", **settings))
            for longer in [(*items, ("box", "")), items[1:], items * 2]:
                self.assertFalse(
                    is_certificate(program, "copied", (word, longer, cut, dealing), seen="answers", **settings))


class Candidates(unittest.TestCase):
    """All calls that may be certificates."""

    def test_of_the_shortest_lists(self):
        for program, way, settings in CASES:
            many = len(judge(program, way, **settings))
            if many and many_calls(program, settings, many) <= 1000:
                found = 0
                for items, cut, dealing in all_calls(program, settings, many):
                    parts = model_parts(program, way, settings, items, cut, dealing)
                    thing = ("parted", items, cut, dealing)
                    self.assertIs(is_certificate(program, way, thing, **settings), parts)
                    found += parts
                self.assertGreater(found, 0)

    def test_longer_lists_are_none(self):
        for program, way, settings in CASES[:3]:
            verdict = judge(program, way, **settings)
            many = len(verdict) + 1
            found = 0
            for items, cut, dealing in itertools.islice(all_calls(program, settings, many), 300):
                found += model_parts(program, way, settings, items, cut, dealing)
                self.assertIs(is_certificate(program, way, ("parted", items, cut, dealing), **settings), False)
            self.assertGreater(found, 0)

    def test_other_cuts_than_the_settings_allow(self):
        settings = {"seen": "answers", "workers": 1, "chunk": 2}
        items = (("box", ""), ("box", ""), ("box", "a"))
        self.assertTrue(is_certificate(KEEPS, "copied", ("parted", items, (2, 1), (0, 0)), **settings))
        for cut in [(1, 2), (1, 1, 1), (3,), (2,), (2, 2), (2, 1, 1), ()]:
            thing = ("parted", items, cut, (0,) * len(cut))
            self.assertIs(is_certificate(KEEPS, "copied", thing, **settings), False)
        settings = {"seen": "answers", "workers": 1, "chunk": None}
        self.assertTrue(is_certificate(KEEPS, "copied", ("parted", items[1:], (1, 1), (0, 0)), **settings))
        self.assertFalse(is_certificate(KEEPS, "copied", ("parted", items[1:], (2,), (0,)), **settings))

    def test_dealings_to_more_workers(self):
        items = (("box", "a"), ("box", ""))
        for workers in range(2, 10):
            for dealing in itertools.product(range(11), repeat=2):
                right = dealing[0] != dealing[1] and max(dealing) < workers
                found = is_certificate(
                    KEEPS, "copied", ("parted", items, (1, 1), dealing), seen="answers", workers=workers)
                # With one worker for both, the first answer stays what it was: a loop that adds nothing is alike.
                self.assertIs(found, right)

    def test_items_that_are_no_letters(self):
        program = Program("Za", ["g = {}"], ["x = {}"], ["g |= item"])
        for item, right in [
            (("box", "a"), True), (("box", ""), False), (("box", "Z"), False), (("name", "g"), False),
            (("name", "x"), False),
            (("box", "Za"), False), (("box", "b"), False), (["box", "a"], False), (("box", "a", "a"), False),
        ]:
            self.assertIs(is_certificate(program, "copied", ("parted", (item,), (1,), (0,))), right)

    def test_the_certificates_of_other_settings(self):
        found = [judge(program, way, **settings).certificate for program, way, settings in CASES]
        for program, way, settings in CASES:
            verdict = judge(program, way, **settings)
            for thing in found:
                if thing[0] == "alike" or verdict:
                    wanted = same_value(thing, verdict.certificate)
                else:
                    _, items, cut, dealing = thing
                    wanted = (
                        len(items) == len(verdict) and cut in cuts_of(len(items), settings.get("chunk", 1))
                        and max(dealing) < settings.get("workers", 2)
                        and all(item in program.letters() for item in items)
                        and model_parts(program, way, settings, items, cut, dealing))
                self.assertIs(is_certificate(program, way, thing, **settings), wanted)


class Bent(unittest.TestCase):

    def test_alike(self):
        for program, way, settings in CASES:
            verdict = judge(program, way, **settings)
            if verdict:
                things = list(bent(verdict.certificate))
                self.assertGreater(len(things), 100)
                # Of the many ways to bend a long one, some.
                for thing in things[::len(things) // 300 + 1]:
                    self.assertIs(is_certificate(program, way, thing, **settings), False, thing)

    def test_scenes_left_out_added_and_moved(self):
        program = Program("a", ["g = {}"], [], ["g |= item"])
        settings = {"back": ["g"], "chunk": None}
        word, scenes = judge(program, "copied", **settings).certificate
        self.assertGreater(len(scenes), 4)
        for at in range(len(scenes)):
            self.assertFalse(is_certificate(program, "copied", (word, scenes[:at] + scenes[at + 1:]), **settings))
            self.assertFalse(
                is_certificate(program, "copied", (word, scenes[:at] + scenes[at:at + 1] + scenes[at:]), **settings))
            turned = scenes[at:] + scenes[:at]
            self.assertIs(is_certificate(program, "copied", (word, turned), **settings), at == 0)
        self.assertTrue(is_certificate(program, "copied", (word, scenes), **settings))
        self.assertFalse(is_certificate(program, "copied", (word, scenes[::-1]), **settings))

    def test_one_for_true(self):
        program = Program("a", [], [], ["out = item"])
        scenes = (((), (), (), False, 0), ((), (), (), False, 1), ((), (), (), True, 1))
        self.assertIs(is_certificate(program, "copied", ("alike", scenes)), True)
        for at, place, other in [(0, 3, 0), (0, 4, False), (1, 3, 0), (1, 4, True), (2, 3, 1), (2, 4, True)]:
            scene = scenes[at][:place] + (other,) + scenes[at][place + 1:]
            thing = ("alike", scenes[:at] + (scene,) + scenes[at + 1:])
            self.assertEqual(thing, ("alike", scenes))
            self.assertIs(is_certificate(program, "copied", thing), False)

    def test_parted(self):
        for program, way, settings in CASES:
            verdict = judge(program, way, **settings)
            if not verdict:
                for thing in bent(verdict.certificate):
                    self.assertIs(is_certificate(program, way, thing, **settings), self.is_right(
                        thing, program, way, settings, len(verdict)), thing)

    def is_right(self, thing, program, way, settings, many):
        """Whether a bent certificate is one still: another letter or worker may do as well."""
        for items, cut, dealing in all_calls(program, settings, many):
            if same_value(thing, ("parted", items, cut, dealing)):
                return model_parts(program, way, settings, items, cut, dealing)
        return False

    def test_truth_values_and_lists_in_a_parted_one(self):
        right = ("parted", (("box", ""), ("box", "a")), (1, 1), (0, 0))
        settings = {"seen": "answers", "workers": 1, "chunk": None}
        self.assertIs(is_certificate(KEEPS, "copied", right, **settings), True)
        for thing in [
            ("parted", right[1], (True, 1), (0, 0)), ("parted", right[1], (1, True), (0, 0)),
            ("parted", right[1], (1, 1), (False, 0)), ("parted", right[1], (1, 1), (0, False)),
            ("parted", list(right[1]), (1, 1), (0, 0)), ("parted", right[1], [1, 1], (0, 0)),
            ("parted", right[1], (1, 1), [0, 0]), list(right), ("parted", (["box", ""], ("box", "a")), (1, 1), (0, 0)),
            ("parted", right[1], None, (0, 0)), ("parted", right[1], (1, 1), None), ("parted", right[1], (1, 1)),
            (*right, ()), ("alike", right[1], (1, 1), (0, 0)), ("Parted", *right[1:]), (None, *right[1:]),
        ]:
            self.assertIs(is_certificate(KEEPS, "copied", thing, **settings), False)


class AnyValue(unittest.TestCase):

    def test_any_values(self):
        things = any_values() + ["alike", "parted", ("alike",), ("parted",), ("alike", ()), ("parted", (), (), ())]
        things += [("alike", thing) for thing in any_values()]
        things += [("parted", thing, (1,), (0,)) for thing in any_values()]
        things += [("parted", (("box", "a"),), thing, (0,)) for thing in any_values() if thing != (1,)]
        things += [("parted", (("box", "a"),), (1,), thing) for thing in any_values()]
        things += [judge(KEEPS, "copied"), (judge(KEEPS, "copied").certificate,), judge(KEEPS, "copied").levels]
        program = Program("a", ["g = {}"], [], ["g |= item"])
        self.assertTrue(is_certificate(program, "copied", ("parted", (("box", "a"),), (1,), (0,))))
        for thing in things:
            self.assertIs(is_certificate(program, "copied", thing), False)
            self.assertIs(is_certificate(program, "copied", thing, back=["g"]), False)

    def test_large_values(self):
        verdict = judge(counting(15, COUNT), "copied", workers=1, chunk=5, seen="answers")
        settings = {"workers": 1, "chunk": 5, "seen": "answers"}
        program = counting(15, COUNT)
        self.assertEqual(len(verdict.certificate[1]), 81)
        self.assertTrue(is_certificate(program, "copied", verdict.certificate, **settings))
        word, scenes = verdict.certificate
        for thing in [(word, scenes * 9), (word, scenes + scenes[-1:]), (word, (scenes,)), (word, verdict.levels)]:
            self.assertIs(is_certificate(program, "copied", thing, **settings), False)


class Errors(unittest.TestCase):

    def test_by_name(self):
        thing = judge(KEEPS, "copied", chunk=2, workers=1).certificate
        self.assertIs(is_certificate(thing=thing, way="copied", program=KEEPS, workers=1, chunk=2), True)
        with self.assertRaises(TypeError):
            is_certificate(KEEPS, "copied", thing, 1)

    def test_as_judge_ahead_of_looking_at_the_value(self):
        for thing in [None, ("alike", ()), 1]:
            for what, wrong in wrong_settings():
                bad_setting(
                    self, what, is_certificate, **{"program": PROGRAM, "way": "anew", "thing": thing, what: wrong})
            cannot_cross(self, 0, "begin", is_certificate, PROGRAM, "anew", thing, begin=["k"])
            too_many(self, "scenes", is_certificate, shifting(SHIFT), "copied", thing, seen="answers")
        self.assertIs(is_certificate(shifting(SHIFT + ["out = k"]), "copied", None, seen="answers"), False)


if __name__ == "__main__":
    unittest.main()
