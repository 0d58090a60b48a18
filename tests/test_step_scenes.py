"""Walk.after: the scenes to which a step leads (28, 29), written out."""

import random
import unittest

from drawn import drawn_parts, drawn_settings, model_rows, talking_parts
from helping import same_value
from pooled import Stays, begun_model
from walked import ModelWalk, letter, model_of, watched
from workerworlds.errors import CannotCross
from workerworlds.programs import Program
from workerworlds.scenes import Walk


class Scenes(unittest.TestCase):

    def leads(self, walk, scene, text, move, *scenes):
        """Asserts that the step leads to these very scenes, and gives them."""
        found = walk.after(scene, letter(text), move)
        self.assertTrue(same_value(found, ("scenes", scenes)), found)
        self.assertEqual(list(scenes), sorted(set(scenes)))
        return scenes


class OneToThree(Scenes):

    def test_one(self):
        walk = Walk(Program("a", [], [], ["out = item"]), "copied")
        self.leads(walk, walk.first, "", "ours", ((), (), (), True, 1))
        self.leads(walk, walk.first, "a", "away", ((), (), (), False, 1))

    def test_an_answer_that_can_change(self):
        walk = Walk(Program("a", ["g = {}"], [], ["out = g"]), "copied", seen="answers")
        rows, held = ((("g",), ""),), ((("answer", "g"), ""),)
        self.leads(walk, walk.first, "", "ours", (held, (), held, True, 1), (rows, (), rows, True, 1))
        self.leads(walk, walk.first, "", "away", (rows, (), rows, False, 1))

    def test_a_box_that_was_given(self):
        walk = Walk(Program("a", ["g = {}"], [], ["g = item"]), "copied")
        rows, given = ((("g",), ""),), ((("g", "given"), ""),)
        self.leads(walk, walk.first, "", "away", (rows, (), rows, False, 1), (given, (), rows, False, 1))
        self.leads(walk, walk.first, "", "ours", (rows, rows, rows, True, 1), (given, rows, rows, True, 1))
        walk = Walk(walk.program, "copied", seen="answers")
        self.leads(walk, walk.first, "", "away", (rows, (), rows, False, 1))

    def test_three(self):
        walk = Walk(Program("a", ["g = {}", "h = {}"], [], ["h = item", "out = g"]), "copied")
        rows = ((("g",), ""), (("h",), ""))
        held = ((("answer", "g"), ""), (("h",), ""))
        given = ((("g",), ""), (("given", "h"), ""))
        self.leads(
            walk, walk.first, "", "ours",
            (held, rows, held, True, 1), (given, rows, rows, True, 1), (rows, rows, rows, True, 1))
        self.leads(walk, walk.first, "", "away", (given, (), rows, False, 1), (rows, (), rows, False, 1))

    def test_no_more_than_one_box_is_watched(self):
        walk = Walk(Program("a", ["g = {}", "h = {}"], [], ["h = item", "out = g"]), "copied", chunk=None)
        for scene in walk.after(walk.first, letter(""), "ours")[1]:
            kept = {"answer": [(("answer", "g"), ""), (("h",), "")], None: None, "given": [(("g",), ""), (("h",), "")]}
            for move in ("on", "ours", "away"):
                found = walk.after(scene, letter(""), move)[1]
                if watched(scene) is None:
                    self.assertEqual(len(found), 2 if move == "away" else 3)
                else:
                    self.assertEqual(len(found), 1)
                    names = [name for entry in found[0][0] for name in entry[0]]
                    self.assertEqual("answer" in names, watched(scene) == "answer")
                    # Another box is bound to h now: nobody can change the one that was given.
                    self.assertNotIn("given", names)
                    self.assertEqual(list(found[0][0]), kept[watched(scene)])

    def test_an_own_name_is_not_given(self):
        walk = Walk(Program("a", ["g = {}"], ["x = {}"], ["g = item"]), "copied")
        rows = ((("g",), ""), (("x",), ""))
        shared = ((("g", "x"), ""),)
        self.leads(walk, walk.first, ".x", "away", (shared, (), ((("g",), ""),), False, 1))
        given = ((("g", "given"), ""), (("x",), ""))
        self.leads(
            walk, walk.first, "", "away", (rows, (), ((("g",), ""),), False, 1), (given, (), ((("g",), ""),), False, 1))


class Leaving(Scenes):

    def test_an_answer_that_nobody_can_change(self):
        walk = Walk(Program("a", ["g = {}"], [], ["out = g | {}"]), "copied")
        rows = ((("g",), ""),)
        self.leads(walk, walk.first, "", "ours", (rows, rows, rows, True, 1))

    def test_an_answer_that_only_the_loop_can_change(self):
        task = ["if a in h", "out = g", "else", "out = g | {}", "end"]
        walk = Walk(Program("a", ["g = {}", "h = {}"], ["h = {a}"], task), "anew", seen="answers")
        mine, theirs = ((("g",), ""), (("h",), "a")), ((("g",), ""), (("h",), ""))
        held = ((("answer", "g"), ""), (("h",), "a"))
        self.leads(walk, walk.first, "", "ours", (held, (), theirs, True, 1), (mine, (), theirs, True, 1))

    def test_an_answer_that_only_the_worker_can_change(self):
        task = ["if a in h", "out = g", "else", "out = g | {}", "end"]
        walk = Walk(Program("a", ["g = {}", "h = {a}"], ["h = {}"], task), "anew", seen="answers", chunk=None)
        mine, theirs = ((("g",), ""), (("h",), "")), ((("g",), ""), (("h",), "a"))
        alone = ((("answer",), ""), *mine)
        held = ((("answer", "g"), ""), (("h",), "a"))
        scenes = self.leads(walk, walk.first, "", "ours", (alone, (), held, True, 1), (mine, (), theirs, True, 1))
        # It is watched up to the end of the chunk: then it leaves theirs, and mine.
        self.leads(walk, scenes[0], "", "on", (alone, (), held, True, 1))
        self.leads(walk, scenes[0], "", "away", (mine, (), theirs, False, 1))
        self.leads(walk, scenes[0], "", "ours", *scenes)

    def test_an_answer_stays_in_mine_behind_its_chunk(self):
        walk = Walk(Program("a", ["g = {}"], [], ["out = g"]), "copied", seen="answers")
        rows, held = ((("g",), ""),), ((("answer", "g"), ""),)
        scene = walk.after(walk.first, letter(""), "ours")[1][0]
        self.assertEqual(scene, (held, (), held, True, 1))
        self.leads(walk, scene, "", "away", (held, (), rows, False, 1))
        self.leads(walk, scene, "", "ours", (held, (), rows, True, 1))

    def test_an_answer_leaves_with_the_move_and_another_is_watched(self):
        task = ["if a in h", "out = g", "else", "out = g | {}", "end"]
        walk = Walk(Program("a", ["g = {}", "h = {a}"], ["h = {}"], task), "anew", seen="answers")
        scene = walk.after(walk.first, letter(""), "ours")[1][0]
        self.assertEqual(watched(scene), "answer")
        self.assertEqual(len(walk.after(scene, letter(""), "ours")[1]), 2)
        self.assertEqual(len(walk.after(scene, letter(""), "away")[1]), 1)

    def test_an_answer_whose_box_loses_its_other_name(self):
        task = ["if a in item", "g = {}", "else", "out = g", "end"]
        walk = Walk(Program("a", ["g = {}"], [], task), "copied", seen="answers", chunk=None)
        rows = ((("g",), ""),)
        scene = walk.after(walk.first, letter(""), "ours")[1][0]
        self.assertEqual(watched(scene), "answer")
        self.leads(walk, scene, "a", "on", (rows, (), rows, True, 1))
        self.leads(walk, scene, "a", "away", (rows, (), rows, False, 1))

    def test_a_given_box_whose_other_name_is_bound_again(self):
        walk = Walk(Program("a", ["g = {}"], [], ["if a in item", "g = {}", "else", "g = item", "end"]), "copied")
        rows, given = ((("g",), ""),), ((("g", "given"), ""),)
        scene = walk.after(walk.first, letter(""), "away")[1][1]
        self.assertEqual(scene, (given, (), rows, False, 1))
        self.leads(walk, scene, "a", "away", (rows, (), rows, False, 1))
        # The new box of g is another one: the watched box has left.
        self.leads(walk, scene, "", "away", (rows, (), rows, False, 1))

    def test_an_answer_is_held_by_an_own_name(self):
        walk = Walk(Program("a", [], ["x = {a}"], ["out = item"]), "copied", seen="answers", chunk=2)
        mine, theirs = ((("x",), "a"),), ((("sent x",), "a"),)
        held, sent = ((("answer", "x"), "a"),), ((("answer", "sent x"), "a"),)
        scenes = self.leads(walk, walk.first, ".x", "ours", (held, (), sent, True, 1), (mine, (), theirs, True, 1))
        self.leads(walk, scenes[0], "", "on", (held, (), sent, True, 2))
        self.leads(walk, scenes[1], "", "on", (mine, (), theirs, True, 2))
        scene = walk.after(scenes[0], letter(""), "on")[1][0]
        self.leads(walk, scene, "", "away", (held, (), (), False, 1))


class Moving(Scenes):

    PROGRAM = Program("ab", ["g = {}"], ["x = {a}", "y = x"], ["g |= item"])

    def test_sent_names(self):
        walk = Walk(self.PROGRAM, "copied", seen="answers", chunk=2)
        mine, theirs = ((("g",), ""), (("x", "y"), "a")), ((("g",), ""), (("sent x", "sent y"), "a"))
        ours, = self.leads(walk, walk.first, "", "ours", (mine, (), theirs, True, 1))
        away, = self.leads(walk, walk.first, "", "away", (mine, (), theirs[:1], False, 1))
        ours, = self.leads(walk, ours, "", "on", (mine, (), theirs, True, 2))
        away, = self.leads(walk, away, "", "on", (mine, (), theirs[:1], False, 2))
        for scene in (ours, away):
            self.leads(walk, scene, "", "ours", (mine, (), theirs, True, 1))
            self.leads(walk, scene, "", "away", (mine, (), theirs[:1], False, 1))

    def test_sent_boxes_are_those_of_the_begun_world(self):
        program = Program(
            "ab", ["g = {}"], ["x = {a}", "y = {}"], ["if b in item", "item |= {a}", "end", "item |= {b}"])
        walk = Walk(program, "copied", seen="answers", chunk=2)
        first, = self.leads(
            walk, walk.first, ".x", "ours",
            (((("g",), ""), (("x",), "ab"), (("y",), "")), (), ((("g",), ""), (("sent x",), "ab"), (("sent y",), "")),
             True, 1))
        mine = ((("g",), ""), (("x",), "ab"), (("y",), ""))
        again, = self.leads(
            walk, first, ".x", "on", (mine, (), ((("g",), ""), (("sent x",), "ab"), (("sent y",), "")), True, 2))
        # A new chunk is sent what was there when the call began, also of a box that has changed since.
        self.leads(walk, again, "", "ours", (mine, (), ((("g",), ""), (("sent x",), "a"), (("sent y",), "")), True, 1))
        mine = ((("g",), ""), (("x",), "ab"), (("y",), "b"))
        self.leads(
            walk, again, ".y", "ours", (mine, (), ((("g",), ""), (("sent x",), "a"), (("sent y",), "b")), True, 1))

    def test_a_worker_may_keep_a_sent_box(self):
        walk = Walk(Program("ab", ["g = {}"], ["x = {a}"], ["g = item"]), "copied", seen="answers")
        mine = ((("g", "x"), "a"),)
        kept, = self.leads(walk, walk.first, ".x", "ours", (mine, (), ((("g", "sent x"), "a"),), True, 1))
        bare, = self.leads(walk, kept, "", "away", (((("g",), ""), (("x",), "a")), (), ((("g",), "a"),), False, 1))
        self.leads(
            walk, bare, "b", "ours", (((("g",), "b"), (("x",), "a")), (), ((("g",), "b"), (("sent x",), "a")), True, 1))

    def test_the_loop_alone_goes_on_when_the_move_is_away(self):
        walk = Walk(Program("ab", ["g = {}"], [], ["g |= item"]), "copied", seen="answers")
        rows = [((("g",), contents),) for contents in ("", "a", "b", "ab")]
        first, = self.leads(walk, walk.first, "a", "away", (rows[1], (), rows[0], False, 1))
        second, = self.leads(walk, first, "b", "ours", (rows[3], (), rows[2], True, 1))
        self.leads(walk, second, "", "away", (rows[3], (), rows[2], False, 1))

    def test_renew(self):
        program = Program("ab", ["g = {}"], [], ["g |= item"])
        rows = [((("g",), contents),) for contents in ("", "a", "b", "ab")]
        for chunk in (None, 2):
            walk = Walk(program, "copied", seen="answers", renew=True, chunk=chunk)
            sizes = [1, 2] if chunk else [1, 1]
            first, = self.leads(walk, walk.first, "a", "ours", (rows[1], (), rows[1], True, 1))
            second, = self.leads(walk, first, "b", "on", (rows[3], (), rows[3], True, sizes[1]))
            self.leads(walk, second, "", "ours", (rows[3], (), rows[0], True, 1))
            self.leads(walk, second, "b", "ours", (rows[3], (), rows[2], True, 1))
            # Also for a chunk of another worker.
            self.leads(walk, second, "b", "away", (rows[3], (), rows[0], False, 1))

    def test_renew_with_names_to_begin_with(self):
        program = Program("ab", ["g = {}", "h = {}"], ["g = {b}", "h = {b}"], ["g |= item"])
        walk = Walk(program, "anew", seen="answers", renew=True, begin=["h"])
        mine, theirs = ((("g",), "b"), (("h",), "b")), ((("g",), ""), (("h",), "b"))
        first, = self.leads(walk, walk.first, "b", "ours", (mine, (), mine, True, 1))
        self.leads(walk, first, "", "ours", (mine, (), theirs, True, 1))
        self.leads(walk, first, "", "away", (mine, (), theirs, False, 1))

    def test_before(self):
        program = Program("ab", ["g = {}"], [], ["g |= item"])
        walk = Walk(program, "copied", back=["g"], chunk=None)
        rows = [((("g",), contents),) for contents in ("", "a", "b", "ab")]
        first, = self.leads(walk, walk.first, "a", "ours", (rows[1], rows[0], rows[1], True, 1))
        second, = self.leads(walk, first, "b", "on", (rows[3], rows[0], rows[3], True, 1))
        self.leads(walk, second, "", "ours", (rows[3], rows[3], rows[3], True, 1))
        third, = self.leads(walk, second, "", "away", (rows[3], (), rows[3], False, 1))
        self.leads(walk, third, "", "on", (rows[3], (), rows[3], False, 1))
        self.leads(walk, third, "", "ours", (rows[3], rows[3], rows[3], True, 1))
        walk = Walk(program, "copied", back=["g"], chunk=None, seen="answers")
        self.leads(walk, walk.first, "a", "ours", (rows[1], (), rows[1], True, 1))

    def test_before_has_no_watched_box(self):
        walk = Walk(Program("a", ["g = {}"], [], ["g = item"]), "copied")
        rows, given = ((("g",), ""),), ((("g", "given"), ""),)
        scene = walk.after(walk.first, letter(""), "away")[1][1]
        self.assertEqual(scene[0], given)
        found = walk.after(scene, letter(""), "ours")[1]
        self.assertEqual([scene[1] for scene in found], [rows] * len(found))
        walk = Walk(Program("a", ["g = {}"], [], ["out = g"]), "copied")
        scene = walk.after(walk.first, letter(""), "ours")[1][0]
        self.assertEqual(scene[0], ((("answer", "g"), ""),))
        found = walk.after(scene, letter(""), "ours")[1]
        self.assertEqual([scene[1] for scene in found], [rows] * len(found))

    def test_a_step_changes_nothing(self):
        walk = Walk(self.PROGRAM, "copied", chunk=None, back=["g"], renew=True)
        first = walk.first
        found = [walk.after(first, item, move) for item in walk.letters() for move in walk.moves(first)]
        again = [walk.after(first, item, move) for item in walk.letters() for move in walk.moves(first)]
        self.assertEqual(found, again)
        self.assertEqual((walk.first, walk.program.begun().rows()), (first, first[0]))


class BesideTheModel(unittest.TestCase):
    """Programs by chance, step by step, beside the words of the document over Python's own sets."""

    def walks(self, chance, draw, many):
        for _ in range(many):
            program, way = Program(*draw(chance)), chance.choice(["copied", "anew"])
            settings = drawn_settings(chance, program, way)
            try:
                model = ModelWalk(program, way, **settings)
            except Stays as stays:
                with self.assertRaises(CannotCross) as caught:
                    Walk(program, way, **settings)
                self.assertEqual((caught.exception.at, caught.exception.what), (stays.at, "begin"))
            else:
                yield Walk(program, way, **settings), model

    def beside(self, chance, draw, many):
        """What was met: the conditions that held, what steps gave, and the boxes that were watched."""
        met = set()
        for walk, model in self.walks(chance, draw, many):
            self.assertTrue(same_value(walk.first, model.first))
            scene = walk.first
            for _ in range(8):
                self.assertEqual(walk.moves(scene), model.moves(scene))
                item, move = chance.choice(walk.letters()), chance.choice(walk.moves(scene))
                found = walk.after(scene, item, move)
                self.assertTrue(
                    same_value(found, model.after(scene, item, move)), (str(walk.program), scene, item, move))
                met.update(model.conditions(scene, item, move)[0])
                if found[0] != "scenes":
                    met.add(found[0])
                    break
                scene = chance.choice(found[1])
                met.add(watched(scene))
        return met

    def test_programs_by_chance(self):
        met = self.beside(random.Random(41), drawn_parts, 1500)
        self.assertLessEqual({1, 2, 3, 6, 7, 8, "differs", "ends", "answer", "given", None}, met)

    def test_programs_that_tell_much(self):
        met = self.beside(random.Random(43), talking_parts, 1500)
        self.assertLessEqual({2, 3, 4, 5, 6, 8, "differs", "ends", "answer", "given", None}, met)

    def test_the_rows_of_the_model(self):
        chance = random.Random(42)
        for _ in range(200):
            program = Program(*drawn_parts(chance))
            rows = program.begun().rows()
            self.assertEqual(model_rows(begun_model(program)), rows)
            self.assertEqual(model_rows(model_of(rows)), rows)


if __name__ == "__main__":
    unittest.main()
