"""judge and Verdict: point 30, and what the interface lists of them."""

import itertools
import random
import unittest

from drawn import drawn_parts, drawn_settings, talking_parts
from helping import bad_setting, cannot_cross, same_value, too_many
from pooled import ModelPool, Stays, alike_by, even
from programs_used import COUNT, KEEPS, SHIFT, TELL_FIFTEEN, UP_TO_ELEVEN, counting, shifting
from walked import ModelWalk
from wrong import PROGRAM, wrong_settings
from workerworlds import judging
from workerworlds.errors import CannotCross, TooMany
from workerworlds.judging import Verdict, judge
from workerworlds.programs import Program


class Interface(unittest.TestCase):

    def test_what_the_module_has(self):
        for thing in [judging.judge, judging.Verdict, judging.is_certificate]:
            self.assertEqual(thing.__module__, "workerworlds.judging")
        for name in ["__bool__", "__len__"]:
            self.assertIn(name, Verdict.__dict__)

    def test_by_name(self):
        verdict = judge(
            way="anew", program=KEEPS, seen="answers", renew=False, back=["kept"], begin=("kept",), chunk=None,
            workers=3)
        self.assertIs(verdict.__class__, Verdict)
        with self.assertRaises(TypeError):
            judge(KEEPS, "copied", 2)

    def test_lists_are_not_changed(self):
        begin, back = ["kept"], ["kept"]
        judge(KEEPS, "anew", begin=begin, back=back)
        self.assertEqual((begin, back), (["kept"], ["kept"]))

    def test_kinds(self):
        alike, parted = judge(KEEPS, "copied", workers=1, chunk=9), judge(KEEPS, "copied")
        for verdict in (alike, parted):
            self.assertIs(verdict.certificate.__class__, tuple)
            self.assertIs(verdict.levels.__class__, tuple)
            self.assertTrue(all(level.__class__ is tuple for level in verdict.levels))
        parted = judge(KEEPS, "copied", seen="answers")
        self.assertEqual((bool(parted), len(parted)), (False, 2))


class Errors(unittest.TestCase):

    def test_each_wrong_setting(self):
        for what, thing in wrong_settings():
            bad_setting(self, what, judge, **{"program": PROGRAM, "way": "copied", what: thing})

    def test_begin_that_cannot_cross(self):
        cannot_cross(self, 1, "begin", judge, PROGRAM, "anew", begin=["g", "k"])
        bad_setting(self, "seen", judge, PROGRAM, "anew", begin=["g", "k"], seen="")
        judge(PROGRAM, "copied", begin=["g", "k"])

    def test_settings_ahead_of_too_many_scenes(self):
        program = shifting(SHIFT)
        too_many(self, "scenes", judge, program, "copied", seen="answers")
        bad_setting(self, "seen", judge, program, "copied", seen="answer")


class Alike(unittest.TestCase):

    def test_all_scenes(self):
        verdict = judge(Program("a", [], [], ["out = item"]), "copied")
        scenes = (((), (), (), False, 0), ((), (), (), False, 1), ((), (), (), True, 1))
        self.assertTrue(same_value(verdict.certificate, ("alike", scenes)))
        self.assertTrue(same_value(verdict.levels, (scenes[:1], scenes[1:])))
        self.assertIs(bool(verdict), True)
        self.assertTrue(same_value(len(verdict), 0))

    def test_one_worker_with_all_items_in_one_chunk(self):
        program = Program("a", ["g = {}"], [], ["g |= item", "out = g | {}"])
        self.assertTrue(judge(program, "copied", workers=1, chunk=1, seen="answers"))
        self.assertTrue(judge(program, "anew", workers=1, chunk=None, seen="answers"))
        self.assertFalse(judge(program, "copied", workers=2, chunk=1, seen="answers"))
        self.assertFalse(judge(program, "copied", workers=1, chunk=1, seen="all"))
        self.assertTrue(judge(program, "copied", workers=1, chunk=1, back=["g"]))
        self.assertFalse(judge(program, "copied", workers=1, chunk=1, back=["g"], renew=True))

    def test_a_program_without_anything(self):
        for way, seen, chunk in itertools.product(["copied", "anew"], ["all", "answers"], [None, 1, 9]):
            verdict = judge(Program("a", [], [], []), way, seen=seen, chunk=chunk)
            self.assertTrue(verdict)
            self.assertEqual(sum(len(level) for level in verdict.levels), len(verdict.certificate[1]))

    def test_a_program_that_always_fails(self):
        program = Program("ab", ["g = {}"], [], ["fail {a} from {b}"])
        verdict = judge(program, "anew")
        self.assertTrue(same_value(verdict.levels, ((verdict.certificate[1][0],),)))
        self.assertTrue(verdict)
        self.assertEqual(len(judge(program.changed(task=["g |= {a}", "fail {a}"]), "anew")), 1)


class Parted(unittest.TestCase):

    def check(self, verdict, many, chunk, workers):
        """The form of a certificate with so many items."""
        self.assertIs(bool(verdict), False)
        self.assertTrue(same_value(len(verdict), many))
        word, items, cut, dealing = verdict.certificate
        self.assertEqual((word, len(items), sum(cut), len(cut)), ("parted", many, many, len(dealing)))
        self.assertEqual(len(verdict.levels), many)
        if chunk is not None:
            self.assertEqual(cut, even(many, chunk))
        self.assertTrue(all(number in range(workers) for number in dealing))

    def test_the_shortest_number_of_items(self):
        for chunk, workers, many in [(1, 1, 2), (2, 1, 3), (3, 1, 4), (9, 1, 10), (None, 1, 2), (1, 2, 2), (4, 2, 5)]:
            verdict = judge(KEEPS, "copied", workers=workers, chunk=chunk, seen="answers")
            self.check(verdict, many, chunk, workers)

    def test_longer_lists(self):
        program = counting(0, COUNT + TELL_FIFTEEN)
        for settings, cut in [
            ({"workers": 1, "renew": True, "chunk": 1}, (1,) * 15), ({"workers": 1, "renew": True, "chunk": 9}, (9, 6)),
            ({"workers": 2, "chunk": 3}, (3,) * 5), ({"workers": 2, "renew": True, "chunk": 1}, (1,) * 15),
        ]:
            verdict = judge(program, "copied", seen="answers", **settings)
            self.check(verdict, 15, settings["chunk"], settings["workers"])
            self.assertEqual(verdict.certificate[2], cut)

    def test_levels(self):
        verdict = judge(KEEPS, "copied", workers=1, chunk=2, seen="answers")
        rows = [((("kept",), contents),) for contents in ("", "a")]
        held = [((("answer", "kept"), contents),) for contents in ("", "a")]
        self.assertTrue(same_value(verdict.levels, (
            ((rows[0], (), rows[0], False, 0),),
            ((held[0], (), held[0], True, 1), (held[1], (), held[1], True, 1), (rows[0], (), rows[0], True, 1),
             (rows[1], (), rows[1], True, 1)),
            ((held[0], (), held[0], True, 2), (held[1], (), held[1], True, 2), (rows[0], (), rows[0], True, 2),
             (rows[1], (), rows[1], True, 2)),
        )))
        self.assertEqual(len(verdict), 3)

    def test_levels_leave_out_the_scenes_of_fewer_items(self):
        verdict = judge(counting(0, COUNT + TELL_FIFTEEN), "copied", workers=2, chunk=3, seen="answers")
        scenes = [scene for level in verdict.levels for scene in level]
        self.assertEqual(len(scenes), len(set(scenes)))
        for level in verdict.levels:
            self.assertEqual(list(level), sorted(level))
            self.assertTrue(level)


class TooManyScenes(unittest.TestCase):

    def test_a_hundred_and_one_more(self):
        settings = {"workers": 1, "chunk": 9, "seen": "answers"}
        verdict = judge(counting(15, COUNT + UP_TO_ELEVEN), "copied", **settings)
        self.assertEqual((bool(verdict), len(verdict.certificate[1]), len(verdict.levels)), (True, 100, 100))
        too_many(self, "scenes", judge, counting(14, COUNT + UP_TO_ELEVEN), "copied", **settings)
        self.assertTrue(judge(counting(14, COUNT + UP_TO_ELEVEN), "copied", workers=1, chunk=8, seen="answers"))

    def test_a_step_that_differs_comes_ahead(self):
        # With three items a step differs, and the scenes of at most three items are more than a hundred.
        verdict = judge(shifting(SHIFT + ["out = k"]), "copied", seen="answers")
        self.assertEqual((bool(verdict), len(verdict), sum(len(level) for level in verdict.levels)), (False, 3, 85))
        model = ModelWalk(shifting(SHIFT + ["out = k"]), "copied", seen="answers")
        led = set()
        for scene, item in itertools.product(verdict.levels[2], model.program.letters()):
            for move in model.moves(scene):
                led.update(model.after(scene, item, move)[1:])
        self.assertGreater(len({scene for scenes in led for scene in scenes}), 100)

    def test_too_many_come_ahead_of_a_later_difference(self):
        # A step would differ with the fourth item.
        program = shifting(["out = k | {}"] + SHIFT)
        too_many(self, "scenes", judge, program, "copied", seen="answers")
        here = ModelPool(program, "here").outcome([("box", "a"), *[("box", "")] * 3])
        pool = ModelPool(program, "copied").outcome([("box", "a"), *[("box", "")] * 3])
        self.assertFalse(alike_by(here, pool, "answers"))


class BesideTheModel(unittest.TestCase):

    def compare(self, chance, draw, many):
        met = set()
        for _ in range(many):
            program, way = Program(*draw(chance)), chance.choice(["copied", "anew"])
            settings = drawn_settings(chance, program, way)
            try:
                verdict = judge(program, way, **settings)
                found = (len(verdict), verdict.levels)
            except TooMany as error:
                self.assertEqual(error.what, "scenes")
                found = None
            except CannotCross as error:
                with self.assertRaises(Stays) as caught:
                    ModelWalk(program, way, **settings)
                self.assertEqual((caught.exception.at, "begin"), (error.at, error.what))
                continue
            self.assertTrue(
                same_value(found, ModelWalk(program, way, **settings).judged()), (str(program), way, settings))
            if found and found[0] == 0:
                scenes = tuple(sorted(scene for level in verdict.levels for scene in level))
                self.assertTrue(same_value(verdict.certificate, ("alike", scenes)))
            met.add(found and found[0])
        return met

    def test_programs_by_chance(self):
        self.assertLessEqual({0, 1, 2}, self.compare(random.Random(51), drawn_parts, 1000))

    def test_programs_that_tell_much(self):
        self.assertLessEqual({None, 0, 1, 2, 3, 4}, self.compare(random.Random(52), talking_parts, 600))


if __name__ == "__main__":
    unittest.main()
