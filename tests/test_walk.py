"""Walk: its settings, its first scene, letters and moves (25 to 27)."""

import itertools
import unittest

from helping import bad_setting, cannot_cross, same_value
from wrong import PROGRAM, RIGHT_NAMES, wrong_settings
from workerworlds.programs import Program
from workerworlds.scenes import Walk

CHUNKS = [None, 1, 2, 3, 4, 5, 6, 7, 8, 9]


class Interface(unittest.TestCase):

    def test_what_the_module_has(self):
        self.assertEqual(Walk.__module__, "workerworlds.scenes")
        for name in ["__init__", "letters", "moves", "after"]:
            self.assertIn(name, Walk.__dict__)

    def test_by_name(self):
        walk = Walk(
            way="copied", program=PROGRAM, seen="answers", renew=True, back=["g"], begin=(), chunk=None, workers=1)
        self.assertEqual(walk.moves(scene=walk.first), ["ours"])
        self.assertEqual(walk.after(move="ours", letter=("box", "a"), scene=walk.first)[0], "scenes")
        with self.assertRaises(TypeError):
            Walk(PROGRAM, "copied", 2)


class Settings(unittest.TestCase):

    def test_each_wrong_setting(self):
        for what, thing in wrong_settings():
            with self.subTest(what=what, thing=str(thing)[:40]):
                bad_setting(self, what, Walk, **{"program": PROGRAM, "way": "copied", what: thing})
                bad_setting(self, what, Walk, **{"program": PROGRAM, "way": "anew", what: thing})

    def test_the_first_of_several(self):
        wrong = {"way": "here", "workers": True, "chunk": 0, "begin": "g", "back": ["x"], "renew": 0, "seen": "answer"}
        right = {
            "way": "anew", "workers": 9, "chunk": None, "begin": ["g"], "back": (), "renew": True, "seen": "answers"}
        names = list(wrong)
        for bits in itertools.product([False, True], repeat=7):
            settings = {name: wrong[name] if bad else right[name] for name, bad in zip(names, bits)}
            if any(bits):
                bad_setting(self, names[bits.index(True)], Walk, PROGRAM, **settings)
            else:
                Walk(PROGRAM, **settings)

    def test_begin_that_cannot_cross(self):
        for names in RIGHT_NAMES:
            Walk(PROGRAM, "copied", begin=names)
            if "k" in names:
                cannot_cross(self, names.index("k"), "begin", Walk, PROGRAM, "anew", begin=names)
                bad_setting(self, "seen", Walk, PROGRAM, "anew", begin=names, seen="none")
                bad_setting(self, "renew", Walk, PROGRAM, "anew", begin=names, renew=None)
            else:
                Walk(PROGRAM, "anew", begin=tuple(names))

    def test_right_settings(self):
        for workers, chunk in itertools.product(range(1, 10), CHUNKS):
            for way, seen, renew in itertools.product(["copied", "anew"], ["all", "answers"], [True, False]):
                Walk(PROGRAM, way, workers=workers, chunk=chunk, seen=seen, renew=renew)

    def test_lists_may_be_changed_later(self):
        program = Program("a", ["g = {}", "h = {}"], [], ["g |= item"])
        begin, back = ["g"], ["g"]
        walk = Walk(program, "anew", begin=begin, back=back, renew=True)
        found = [walk.first, walk.after(walk.first, ("box", "a"), "ours")]
        begin.append("k")
        back.clear()
        self.assertEqual([walk.first, walk.after(walk.first, ("box", "a"), "ours")], found)
        self.assertEqual(found[1][0], "scenes")
        self.assertEqual((begin, back), (["g", "k"], []))


class First(unittest.TestCase):

    PROGRAM = Program("Zab", ["g = {a}", "h = g", "k = {}"], ["h |= {b}", "g = {}", "x = g", "k |= h"], [])
    BEGUN = ((("g", "x"), ""), (("h",), "ab"), (("k",), "ab"))

    def first(self, way, **settings):
        return Walk(self.PROGRAM, way, **settings).first

    def test_copied(self):
        theirs = ((("g",), ""), (("h",), "ab"), (("k",), "ab"))
        for settings in [{}, {"begin": ["h"]}, {"seen": "answers"}, {"chunk": None}, {"renew": True}, {"back": ["g"]}]:
            self.assertTrue(same_value(self.first("copied", **settings), (self.BEGUN, (), theirs, False, 0)))

    def test_anew(self):
        theirs = ((("g", "h"), "a"), (("k",), ""))
        self.assertTrue(same_value(self.first("anew"), (self.BEGUN, (), theirs, False, 0)))
        theirs = ((("g",), "a"), (("h",), "ab"), (("k",), ""))
        self.assertTrue(same_value(self.first("anew", begin=["h"]), (self.BEGUN, (), theirs, False, 0)))

    def test_shared_boxes(self):
        program = Program("a", ["g = {}", "h = {}"], ["h = g", "x = h"], [])
        mine = ((("g", "h", "x"), ""),)
        self.assertEqual(Walk(program, "copied").first, (mine, (), ((("g", "h"), ""),), False, 0))
        self.assertEqual(Walk(program, "anew").first, (mine, (), ((("g",), ""), (("h",), "")), False, 0))
        walk = Walk(program, "anew", begin=["h", "g"])
        self.assertEqual(walk.first, (mine, (), ((("g", "h"), ""),), False, 0))

    def test_nothing(self):
        self.assertTrue(same_value(Walk(Program("a", [], [], []), "copied").first, ((), (), (), False, 0)))
        self.assertTrue(
            same_value(Walk(Program("a", [], ["x = {a}"], []), "anew").first, (((("x",), "a"),), (), (), False, 0)))


class Letters(unittest.TestCase):

    def test_those_of_the_program(self):
        for marks, contents in [("a", ["", "a"]), ("Z", [""]), ("Zab", ["", "a", "ab", "b"]), ("XYq", ["", "q"])]:
            for caller, own in [([], []), (["y = {}", "x = y"], ["x", "y"]), (["g = {}"], [])]:
                program = Program(marks, ["g = {}"], caller, [])
                wanted = [("box", text) for text in contents] + [("name", name) for name in own]
                walk = Walk(program, "copied")
                found = walk.letters()
                self.assertTrue(same_value(found, wanted))
                found.append("later")
                self.assertEqual(walk.letters(), wanted)


class Moves(unittest.TestCase):

    def wanted(self, size, chunk, workers):
        """The moves as a list of items can go on."""
        if size == 0:
            found = ["ours", "away"]
        elif chunk is None:
            found = ["on", "ours", "away"]
        else:
            found = ["on"] if size < chunk else ["ours", "away"]
        return [move for move in found if move != "away" or workers > 1]

    def test_each_size(self):
        program = Program("a", ["g = {}"], ["x = {}"], [])
        for way, chunk, workers in itertools.product(["copied", "anew"], CHUNKS, [1, 2, 3, 9]):
            walk = Walk(program, way, chunk=chunk, workers=workers)
            self.assertTrue(same_value(walk.moves(walk.first), self.wanted(0, chunk, workers)))
            for size in range(1, 2 if chunk is None else chunk + 1):
                for turn in (True, False):
                    scene = (*walk.first[:3], turn, size)
                    self.assertTrue(same_value(walk.moves(scene), self.wanted(size, chunk, workers)))

    def test_a_list_of_its_own(self):
        walk = Walk(Program("a", [], [], []), "copied", chunk=None)
        walk.moves(walk.first).append("later")
        self.assertEqual(walk.moves(walk.first), ["ours", "away"])

    def test_sizes_behind_steps(self):
        program = Program("a", [], [], [])
        for chunk, workers in itertools.product(CHUNKS, [1, 2]):
            walk = Walk(program, "copied", chunk=chunk, workers=workers)
            scene, sizes = walk.first, []
            for _ in range(20):
                move = walk.moves(scene)[0]
                kind, scenes = walk.after(scene, ("box", ""), move)
                self.assertEqual((kind, len(scenes)), ("scenes", 1))
                scene = scenes[0]
                sizes.append((move, scene[4]))
            wanted = [("on" if at else "ours", at + 1) for at in range(chunk or 1)] * 20
            if chunk is None:
                wanted = [("ours", 1)] + [("on", 1)] * 19
            self.assertTrue(same_value(sizes, wanted[:20]))


if __name__ == "__main__":
    unittest.main()
