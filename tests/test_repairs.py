"""made_anew and least: point 32, and what the interface lists of them."""

import itertools
import random
import unittest

from drawn import drawn_parts, drawn_settings, talking_parts
from helping import any_values, bad_setting, cannot_cross, same_value, too_many
from pooled import Stays
from programs_used import KEEPS, SHIFT, shifting
from walked import ModelWalk
from wrong import PROGRAM, RIGHT_NAMES, WRONG_NAMES, wrong_settings
from workerworlds import repairs
from workerworlds.errors import CannotCross, TooMany
from workerworlds.judging import judge
from workerworlds.programs import Program
from workerworlds.repairs import least, made_anew

KINDS = ("begin", "back", "anew")


def head_rows(program, names):
    """The rows of the document for some names, by hand."""
    groups = {}
    for shared, contents in program.imported().rows():
        for name in shared:
            if name in names:
                groups.setdefault((shared, contents), []).append(name)
    rows = []
    for (_, contents), group in sorted(groups.items(), key=lambda item: min(item[1])):
        first, *others = sorted(group)
        rows += [f"{first} = {{{contents}}}"] + [f"{other} = {first}" for other in others]
    return rows


class Interface(unittest.TestCase):

    def test_what_the_module_has(self):
        for thing in [repairs.made_anew, repairs.least, repairs.spread]:
            self.assertEqual(thing.__module__, "workerworlds.repairs")

    def test_by_name(self):
        self.assertEqual(made_anew(names=["kept"], program=KEEPS).task[0], "kept = {}")
        found = least(
            kind="anew", way="copied", program=KEEPS, seen="answers", renew=False, back=[], begin=(), chunk=None,
            workers=2)
        self.assertEqual(found, [("kept",)])
        with self.assertRaises(TypeError):
            least(KEEPS, "copied", "anew", 2)


class MadeAnew(unittest.TestCase):

    SHARED = Program(
        "Zab", ["g = {a}", "h = g", "k = {Zb}"], ["g = {b}", "x = h", "h |= {b}"], ["out = g", "g |= item"])

    def test_rows_at_the_head(self):
        for names, rows in [
            ([], []), (["g"], ["g = {a}"]), (["h"], ["h = {a}"]), (["k"], ["k = {Zb}"]),
            (["g", "h"], ["g = {a}", "h = g"]),
            (["h", "k"], ["h = {a}", "k = {Zb}"]), (["g", "k"], ["g = {a}", "k = {Zb}"]),
            (["g", "h", "k"], ["g = {a}", "h = g", "k = {Zb}"]),
        ]:
            for order in itertools.permutations(names):
                for given in (order, list(order)):
                    program = made_anew(self.SHARED, given)
                    self.assertTrue(same_value(program.task, (*rows, "out = g", "g |= item")))
                    self.assertEqual(
                        (program.marks, program.module, program.caller),
                        (self.SHARED.marks, self.SHARED.module, self.SHARED.caller))
                    self.assertIsNot(program, self.SHARED)
        self.assertEqual(self.SHARED.task, ("out = g", "g |= item"))

    def test_names_that_share_a_box_in_the_imported_world(self):
        cases = [
            (["b = {}", "a = b", "c = a"], ["a = {}", "b = a", "c = a"]),
            (["b = {a}", "c = b", "a = {}"], ["a = {}", "b = {a}", "c = b"]),
            (["c = {a}", "a = c", "b = {}"], ["a = {a}", "c = a", "b = {}"]),
            (["c = {}", "a = {}", "b = {a}"], ["a = {}", "b = {a}", "c = {}"]),
        ]
        for module, rows in cases:
            for order in itertools.permutations("abc"):
                self.assertEqual(made_anew(Program("a", module, [], []), order).task, tuple(rows))
        program = Program("a", cases[2][0], [], [])
        self.assertEqual(made_anew(program, ["c", "b"]).task, ("b = {}", "c = {a}"))
        self.assertEqual(made_anew(program, ["c"]).task, ("c = {a}",))

    def test_contents_of_the_imported_world(self):
        program = Program("Zab", ["g = {Z}", "g |= {b}", "h = g - {Z}"], ["g -= {b}", "h = {}"], ["out = g"])
        self.assertEqual(made_anew(program, ["h", "g"]).task, ("g = {Zb}", "h = {b}", "out = g"))

    def test_what_the_task_does_then(self):
        program = made_anew(Program("ab", ["g = {}", "h = g"], [], ["g |= item", "out = h"]), ["g", "h"])
        self.assertTrue(judge(program, "copied", seen="answers"))
        self.assertEqual(program.task, ("g = {}", "h = g", "g |= item", "out = h"))

    def test_programs_by_chance(self):
        chance = random.Random(71)
        for _ in range(300):
            program = Program(*drawn_parts(chance))
            shared = program.global_names()
            for many in range(len(shared) + 1):
                for names in itertools.permutations(shared, many):
                    rows = (*head_rows(program, names), *program.task)
                    if len(rows) > 16:
                        too_many(self, "rows", made_anew, program, list(names))
                    else:
                        self.assertEqual(made_anew(program, list(names)).task, rows)

    def test_wrong_names(self):
        for thing in WRONG_NAMES + any_values():
            if thing not in ([], (), ["g", "h"]):
                bad_setting(self, "names", made_anew, PROGRAM, thing)
        for names in RIGHT_NAMES:
            self.assertEqual(len(made_anew(PROGRAM, tuple(names)).task), 1 + len(names))

    def test_the_bounds_of_rows(self):
        for many in range(12, 17):
            program = Program("a", ["g = {}", "h = g", "k = {a}"], [], ["out = g"] * many)
            for names in RIGHT_NAMES:
                if many + len(names) > 16:
                    too_many(self, "rows", made_anew, program, names)
                else:
                    self.assertEqual(len(made_anew(program, names).task), many + len(names))
            bad_setting(self, "names", made_anew, program, ["g", "h", "k", "x"])

    def test_names_are_not_changed(self):
        names = ["h", "g"]
        made_anew(self.SHARED, names)
        self.assertEqual(names, ["h", "g"])


class Least(unittest.TestCase):

    def least(self, program, way, kind, wanted, **settings):
        found = least(program, way, kind, **settings)
        self.assertTrue(same_value(found, wanted), found)

    def test_alike_as_it_is(self):
        program = Program("a", ["g = {}", "h = {}"], [], ["out = item"])
        for way, kind in itertools.product(["copied", "anew"], KINDS):
            self.least(program, way, kind, [()])
        self.least(Program("a", [], [], []), "copied", "back", [()])

    def test_no_set_does(self):
        program = Program("a", ["g = {}"], ["x = {}"], ["item |= {a}"])
        for way, kind in itertools.product(["copied", "anew"], KINDS):
            self.least(program, way, kind, [])
        self.least(Program("a", [], [], ["item |= {a}"]), "anew", "begin", [])

    def test_begin(self):
        program = Program("ab", ["g = {}", "h = {}", "k = {}"], ["g = {a}", "k = {b}"], ["out = g | k"])
        self.least(program, "anew", "begin", [("g", "k")])
        self.least(program, "copied", "begin", [()])
        self.least(program.changed(caller=["g = {a}", "h = {a}"], task=["out = g & h"]), "anew", "begin", [("g", "h")])
        program = program.changed(
            task=["if g == h", "out = {a}", "end", "if k == g", "out |= {b}", "end"], caller=["g = {a}"])
        self.least(program, "anew", "begin", [("g",)])

    def test_back(self):
        program = Program("ab", ["g = {}", "h = {}", "k = {}"], [], ["h |= item", "k |= item"])
        self.least(program, "copied", "back", [("h", "k")])
        self.least(program, "anew", "back", [("h", "k")])
        self.least(program, "anew", "back", [()], seen="answers")
        # g and h share a box in the caller's world, and in a worker that is copied.
        shared = Program("ab", ["g = {}", "h = g", "k = {}"], [], ["g |= item"])
        self.least(shared, "copied", "back", [("g",), ("h",)])

    def test_anew(self):
        program = Program("ab", ["g = {}", "h = {}", "k = {}"], [], ["h |= item", "k |= item", "out = h"])
        self.least(program, "copied", "anew", [("h",)], seen="answers")
        self.least(program, "copied", "anew", [])
        both = program.changed(task=["h |= item", "k |= item", "out = h | k"])
        self.least(both, "copied", "anew", [("h", "k")], seen="answers")
        either = program.changed(task=["h |= item", "k |= item", "out = h & k"])
        self.least(either, "copied", "anew", [("h",), ("k",)], seen="answers")
        self.least(either, "copied", "anew", [()], seen="answers", workers=1)

    def test_all_of_the_smallest_size_ascending(self):
        program = Program("ab", ["g = {}", "h = g", "k = g"], [], ["k |= item"])
        self.least(program, "copied", "back", [("g",), ("h",), ("k",)])
        program = Program("ab", ["k = {}", "h = {}", "g = {}"], ["g = k", "h = k"], ["out = g & h"])
        self.least(program, "anew", "begin", [()])
        program = program.changed(
            module=["k = {a}", "h = {}", "g = {a}"], caller=["g = h", "k = {}"], task=["out = g | k"])
        self.least(program, "anew", "begin", [("g", "k")])
        either = Program(
            "a", ["g = {}", "h = {}"], ["g = {a}", "h = {a}"],
            ["if not a in g", "if not a in h", "out = {a}", "end", "end"])
        self.least(either, "anew", "begin", [("g",), ("h",)])

    def test_other_settings_stay(self):
        program = Program("ab", ["g = {}", "h = {}"], ["h = {b}"], ["g |= h", "out = h"])
        self.least(program, "anew", "begin", [])
        self.least(program, "anew", "begin", [("h",)], back=["g"], seen="all")
        self.least(program, "anew", "back", [("g",)], begin=["h"])
        self.least(program, "anew", "back", [])
        self.least(program, "anew", "begin", [("h",)], seen="answers")
        # A caller's row alone parts it: with the module's box in each task it is the same in both worlds.
        self.least(program, "anew", "anew", [("h",)], seen="answers")

    def test_compared_with_its_own_plain_loop(self):
        program = Program("ab", ["g = {}"], [], ["g |= item", "out = g"])
        self.least(program, "copied", "anew", [("g",)], seen="answers")
        self.assertFalse(judge(program, "copied", seen="answers"))
        self.assertTrue(judge(made_anew(program, ["g"]), "copied", seen="answers"))

    def test_a_set_that_cannot_cross_is_no_repair(self):
        program = Program(
            "Za", ["g = {}", "h = {}", "k = {}"], ["g = {a}", "h = {Z}"], ["if a in g", "out = {a}", "end"])
        self.least(program, "anew", "begin", [("g",)])
        program = program.changed(task=["if Z in h", "out = {a}", "end"])
        self.least(program, "anew", "begin", [])
        self.least(program, "copied", "begin", [()])

    def test_too_many_scenes(self):
        for kind in KINDS:
            too_many(self, "scenes", least, shifting(SHIFT), "copied", kind, seen="answers")

    def test_all_sets_of_a_size_are_tried(self):
        for shared in ("gk", "kg"):
            one, other = shared
            task = [f"out = {other} & {{b}}", f"{other} = {one} & item", f"{one} = item"]
            program = Program("ab", [f"{name} = {{}}" for name in shared], [], task)
            self.assertFalse(judge(program, "copied", seen="answers"))
            self.assertTrue(judge(made_anew(program, [one]), "copied", seen="answers"))
            too_many(self, "scenes", judge, made_anew(program, [other]), "copied", seen="answers")
            too_many(self, "scenes", least, program, "copied", "anew", seen="answers")

    def test_too_many_rows(self):
        program = Program("a", ["g = {}", "h = {}"], [], ["g |= item", "out = g"] * 8)
        too_many(self, "rows", least, program, "copied", "anew", seen="answers")
        program = Program("a", ["g = {}", "h = {}"], [], ["g |= item", "out = g"] * 7 + ["out = g"])
        self.least(program, "copied", "anew", [("g",)], seen="answers")
        program = Program("a", ["g = {}", "h = {}"], [], ["g |= item", "h |= item", "out = g & h"] * 5)
        self.least(program, "copied", "anew", [("g",), ("h",)], seen="answers")
        # Sets of two are not tried if one does, nor any if the pool is alike.
        self.least(Program("a", ["g = {}"], [], ["out = item"] * 16), "copied", "anew", [()])
        program = Program("a", ["g = {}", "h = {}"], [], ["g |= item", "h |= item", "out = g | h"] * 5)
        too_many(self, "rows", least, program, "copied", "anew", seen="answers")


class Errors(unittest.TestCase):

    def test_kind(self):
        for thing in any_values() + ["Begin", "back ", "", "all", "renew", ["begin"], ("back",), "seen"]:
            if thing != "anew":
                bad_setting(self, "kind", least, PROGRAM, "copied", thing)
                bad_setting(self, "kind", least, PROGRAM, "here", thing, workers=0, begin=["x"])

    def test_as_walk(self):
        for kind in KINDS:
            for what, thing in wrong_settings():
                bad_setting(self, what, least, **{"program": PROGRAM, "way": "anew", "kind": kind, what: thing})
            cannot_cross(self, 1, "begin", least, PROGRAM, "anew", kind, begin=["g", "k"])

    def test_the_argument_that_the_kind_names(self):
        for names in RIGHT_NAMES[1:]:
            for given in (names, tuple(names)):
                bad_setting(self, "back", least, PROGRAM, "copied", "back", back=given)
                bad_setting(self, "begin", least, PROGRAM, "copied", "begin", begin=given)
        # It comes behind all errors of Walk.
        bad_setting(self, "seen", least, PROGRAM, "copied", "back", back=["g"], seen=None)
        cannot_cross(self, 0, "begin", least, PROGRAM, "anew", "begin", begin=["k"])
        cannot_cross(self, 0, "begin", least, PROGRAM, "anew", "back", back=["g"], begin=["k"])
        bad_setting(self, "back", least, shifting(SHIFT), "copied", "back", back=["g"], seen="answers")
        for names in ([], ()):
            least(PROGRAM, "copied", "back", back=names, begin=["g"])
            least(PROGRAM, "copied", "begin", begin=names, back=["g"])
            least(PROGRAM, "copied", "anew", begin=["g"], back=["h"])


def alike(program, way, settings):
    """Whether the pool is alike by the model: None if there are too many scenes, False if begin cannot cross."""
    try:
        judged = ModelWalk(program, way, **settings).judged()
    except Stays:
        return False
    return None if judged is None else judged[0] == 0


class BesideTheModel(unittest.TestCase):
    """All sets, by the words of the document over Python's own sets."""

    def wanted(self, program, way, kind, settings):
        shared = program.global_names()
        for size in range(len(shared) + 1):
            found = {}
            for names in itertools.combinations(shared, size):
                if kind == "anew":
                    rows = head_rows(program, names) + list(program.task)
                    if len(rows) > 16:
                        return "rows"
                    changed = Program(program.marks, list(program.module), list(program.caller), rows)
                    found[names] = alike(changed, way, settings)
                else:
                    found[names] = alike(program, way, {**settings, kind: list(names)})
                if found[names] is None:
                    return "scenes"
            if any(found.values()):
                return [names for names in found if found[names]]
        return []

    def compare(self, chance, draw, many):
        met = set()
        for _ in range(many):
            program, way, kind = Program(*draw(chance)), chance.choice(["copied", "anew"]), chance.choice(KINDS)
            settings = drawn_settings(chance, program, way)
            if kind != "anew":
                settings[kind] = []
            try:
                found = least(program, way, kind, **settings)
            except TooMany as error:
                found = error.what
            except CannotCross as error:
                with self.assertRaises(Stays) as caught:
                    ModelWalk(program, way, **settings)
                self.assertEqual((caught.exception.at, "begin"), (error.at, error.what))
                continue
            wanted = self.wanted(program, way, kind, settings)
            self.assertTrue(same_value(found, wanted), (str(program), way, kind, settings, found, wanted))
            met.add(found if isinstance(found, str) else (kind, len(found[0]) if found else None))
        return met

    def test_programs_by_chance(self):
        met = self.compare(random.Random(72), drawn_parts, 300)
        self.assertLessEqual({(kind, size) for kind in KINDS for size in (None, 0)}, met)

    def test_programs_that_tell_much(self):
        met = self.compare(random.Random(73), talking_parts, 300)
        self.assertLessEqual({(kind, size) for kind in KINDS for size in (None, 0, 1)}, met)


if __name__ == "__main__":
    unittest.main()
