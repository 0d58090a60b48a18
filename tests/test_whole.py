"""The whole: points 1 to 3 over drawn programs and settings, verdicts held against pools."""

import itertools
import random
import unittest

from calls import all_calls, many_calls, model_parts, pool_settings
from drawn import (
    drawn_cut, drawn_dealing, drawn_letters, drawn_names, drawn_parts, drawn_settings, talking_parts)
from helping import same_value
from pooled import ModelPool, as_tuple, even
from programs_used import KEEPS
from renamed import (
    WORDS, other_failure, other_item, other_outcome, other_program, other_scene, other_scenes)
from workerworlds.errors import CannotCross, TooMany
from workerworlds.judging import is_certificate, judge
from workerworlds.pools import Pool
from workerworlds.programs import Program
from workerworlds.repairs import least, made_anew, spread
from workerworlds.scenes import Walk


def drawn_cases(chance, draw, many):
    """Parts of programs, ways and settings with their verdicts; those without a verdict are left out."""
    for _ in range(many):
        parts, way = draw(chance), chance.choice(["copied", "anew"])
        program = Program(*parts)
        settings = drawn_settings(chance, program, way)
        try:
            yield parts, program, way, settings, judge(program, way, **settings)
        except (TooMany, CannotCross):
            pass


class AgainstPools(unittest.TestCase):

    def alike(self, program, way, settings, items, cut, dealing):
        """Whether the first calls of two new pools are alike."""
        loop = Pool(program, "here").outcome(items)
        pool = Pool(program, way, **pool_settings(settings)).outcome(items, cut=cut, dealing=dealing)
        return pool.alike(loop, seen=settings["seen"])

    def test_an_alike_pool_and_many_workers(self):
        chance, many = random.Random(91), 0
        for draw in (drawn_parts, talking_parts):
            for _, program, way, settings, verdict in drawn_cases(chance, draw, 400):
                for _ in range(8 if verdict else 0):
                    # What two workers cannot show, more of them cannot either.
                    workers = settings["workers"] if settings["workers"] == 1 else chance.randrange(2, 10)
                    items = [chance.choice(program.letters()) for _ in range(chance.randrange(13))]
                    chunk = settings["chunk"]
                    cut = drawn_cut(chance, len(items)) if chunk is None else even(len(items), chunk)
                    dealing = drawn_dealing(chance, len(cut), workers)
                    told = {**settings, "workers": workers}
                    self.assertTrue(
                        self.alike(program, way, told, items, cut, dealing), (str(program), way, told, items))
                    many += 1
        self.assertGreater(many, 2000)

    def test_two_workers_suffice(self):
        chance = random.Random(92)
        for _, program, way, settings, verdict in drawn_cases(chance, talking_parts, 300):
            if settings["workers"] >= 2:
                for workers in (2, 3, 9):
                    again = judge(program, way, **{**settings, "workers": workers})
                    self.assertEqual(
                        (bool(again), len(again), again.levels), (bool(verdict), len(verdict), verdict.levels))
                    self.assertTrue(is_certificate(program, way, verdict.certificate, **{**settings, "workers": max(
                        workers, settings["workers"])}))

    def test_a_parted_pool_and_no_shorter_list(self):
        chance, met = random.Random(93), {}
        for _, program, way, settings, verdict in drawn_cases(chance, talking_parts, 900):
            if not verdict:
                _, items, cut, dealing = verdict.certificate
                self.assertFalse(self.alike(program, way, settings, list(items), cut, dealing))
                count = len(verdict) - 1
                met[count] = met.get(count, 0) + 1
                if (count < 2 or met[count] < 12) and many_calls(program, settings, count) <= 3000:
                    for items, cut, dealing in all_calls(program, settings, count):
                        self.assertFalse(model_parts(program, way, settings, items, cut, dealing))
        self.assertLessEqual({0, 1, 2, 3}, set(met))

    def test_any_shortest_list(self):
        chance = random.Random(94)
        for _, program, way, settings, verdict in drawn_cases(chance, drawn_parts, 150):
            many = len(verdict) or 1
            if many_calls(program, settings, many) <= 30:
                for items, cut, dealing in all_calls(program, settings, many):
                    found = is_certificate(program, way, ("parted", items, cut, dealing), **settings)
                    self.assertIs(found, model_parts(program, way, settings, items, cut, dealing))

    def test_scenes_of_an_alike_pool_are_closed(self):
        chance, many = random.Random(95), 0
        for _, program, way, settings, verdict in drawn_cases(chance, talking_parts, 150):
            if verdict:
                walk, scenes, led = Walk(program, way, **settings), set(verdict.certificate[1]), set()
                led.add(walk.first)
                for scene, item in itertools.product(verdict.certificate[1], walk.letters()):
                    for move in walk.moves(scene):
                        found = walk.after(scene, item, move)
                        self.assertIn(found[0], ("scenes", "ends"))
                        led.update(*found[1:])
                self.assertEqual(led, scenes)
                many += 1
        self.assertGreater(many, 30)


class Repairs(unittest.TestCase):

    def repaired(self, program, way, kind, names, settings):
        """The verdict with these names."""
        if kind == "anew":
            return bool(judge(made_anew(program, names), way, **settings))
        return bool(judge(program, way, **{**settings, kind: names}))

    def test_judge_finds_them_alike_and_no_smaller_set(self):
        chance, met = random.Random(96), set()
        for _, program, way, settings, _ in drawn_cases(chance, talking_parts, 500):
            kind = chance.choice(["begin", "back", "anew"])
            if kind != "anew":
                settings[kind] = []
            try:
                found = least(program, way, kind, **settings)
            except TooMany:
                continue
            smallest = len(found[0]) if found else len(program.global_names())
            for size in range(smallest + 1):
                for names in itertools.combinations(program.global_names(), size):
                    try:
                        self.assertIs(self.repaired(program, way, kind, names, settings), names in found)
                    except CannotCross:
                        self.assertEqual((way, kind), ("anew", "begin"))
                        self.assertNotIn(names, found)
            self.assertEqual(found, sorted(names for names in found if len(names) == smallest))
            met.add((kind, smallest if found else None))
        self.assertLessEqual({(kind, size) for kind in ("begin", "back", "anew") for size in (0, 1, None)}, met)


class Renamed(unittest.TestCase):
    """The same program with other words and other marks."""

    def test_verdicts(self):
        chance = random.Random(97)
        for parts, program, way, settings, verdict in drawn_cases(chance, talking_parts, 250):
            other = other_program(*parts)
            told = {**settings, **{what: [WORDS[name] for name in settings[what]] for what in ("begin", "back")}}
            again = judge(other, way, **told)
            self.assertEqual((bool(again), len(again)), (bool(verdict), len(verdict)))
            self.assertEqual(again.levels, tuple(other_scenes(level) for level in verdict.levels))
            if verdict:
                self.assertEqual(again.certificate, ("alike", other_scenes(verdict.certificate[1])))
            else:
                word, items, cut, dealing = verdict.certificate
                thing = (word, tuple(other_item(item) for item in items), cut, dealing)
                self.assertTrue(is_certificate(other, way, thing, **told))

    def test_steps(self):
        chance = random.Random(98)
        for parts, program, way, settings, _ in drawn_cases(chance, talking_parts, 150):
            told = {**settings, **{what: [WORDS[name] for name in settings[what]] for what in ("begin", "back")}}
            walk, other = Walk(program, way, **settings), Walk(other_program(*parts), way, **told)
            scene = walk.first
            for _ in range(6):
                item, move = chance.choice(walk.letters()), chance.choice(walk.moves(scene))
                found = walk.after(scene, item, move)
                again = other.after(other_scene(scene), other_item(item), move)
                self.assertEqual(again, (found[0], *[other_scenes(scenes) for scenes in found[1:]]))
                if found[0] != "scenes":
                    break
                scene = chance.choice(found[1])

    def test_pools_and_repairs(self):
        chance = random.Random(99)
        for _ in range(250):
            parts, way = drawn_parts(chance), chance.choice(["here", "copied", "anew"])
            program, other = Program(*parts), other_program(*parts)
            back = drawn_names(chance, program)
            pool = Pool(program, way, back=back, chunk=2)
            again = Pool(other, way, back=[WORDS[name] for name in back], chunk=2)
            for _ in range(3):
                items = drawn_letters(chance, program, 5)
                found, twin = pool.outcome(items), again.outcome([other_item(item) for item in items])
                self.assertEqual(as_tuple(twin), other_outcome(as_tuple(found)))
                self.assertEqual(twin.failure, other_failure(found.failure))
            if way != "here":
                try:
                    sets = least(program, way, "back")
                except TooMany:
                    continue
                wanted = sorted(tuple(sorted(WORDS[name] for name in names)) for names in sets)
                self.assertEqual(least(other, way, "back"), wanted)


class General(unittest.TestCase):
    """Point 2: what is new, what is shared, what stays."""

    def test_results_do_not_depend_on_earlier_ones(self):
        chance = random.Random(100)
        for _, program, way, settings, verdict in drawn_cases(chance, talking_parts, 100):
            again = judge(program, way, **settings)
            self.assertTrue(same_value((again.certificate, again.levels), (verdict.certificate, verdict.levels)))
            text = str(program)
            self.assertTrue(is_certificate(program, way, verdict.certificate, **settings))
            self.assertEqual(str(program), text)
            walk = Walk(program, way, **settings)
            self.assertEqual(walk.first, verdict.levels[0][0])

    def test_lists_that_are_returned_are_new(self):
        for call in [
            lambda: least(KEEPS, "copied", "anew", seen="answers"), lambda: spread(KEEPS, "copied", []),
            lambda: Pool(KEEPS, "copied").map([("box", "a")]), lambda: Walk(KEEPS, "copied").letters(),
            lambda: Walk(KEEPS, "copied").moves(Walk(KEEPS, "copied").first),
        ]:
            first = call()
            many = len(first)
            first.append("later")
            self.assertEqual(len(call()), many)

    def test_pools_share_nothing(self):
        chance = random.Random(101)
        for _ in range(100):
            program, way = Program(*drawn_parts(chance)), chance.choice(["here", "copied", "anew"])
            items = drawn_letters(chance, program, 4)
            wanted = ModelPool(program, way).outcome(items)
            pools = [Pool(program, way) for _ in range(3)]
            for pool in pools:
                for row in pool.program.caller[:1]:
                    Pool(program, way).do(row)
                self.assertEqual(as_tuple(pool.outcome(items)), wanted)

    def test_pools_whose_calls_are_mixed(self):
        chance = random.Random(102)
        for _ in range(60):
            program = Program(*drawn_parts(chance))
            pairs = [(Pool(program, way), ModelPool(program, way)) for way in ("here", "copied", "anew") * 2]
            for _ in range(10):
                pool, model = chance.choice(pairs)
                items = drawn_letters(chance, program, 3)
                self.assertEqual(as_tuple(pool.outcome(items)), model.outcome(items))


if __name__ == "__main__":
    unittest.main()
