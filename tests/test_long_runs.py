"""Long runs over boxes and worlds, each step beside a model: sets of marks that places or names hold.

A model has Python's own sets in the places of boxes, so that two places share a set if they share a box.
"""

import operator
import random
import unittest

from helping import contents_of
from workerworlds.boxes import Box
from workerworlds.errors import BadBox, BadName, NoName
from workerworlds.worlds import World

MARKS = "ABab"
SIGNS = [operator.or_, operator.and_, operator.sub, operator.xor]
SIGNS_IN_PLACE = [operator.ior, operator.iand, operator.isub, operator.ixor]
WRONG_CONTENTS = ["ba", "aa", "aB", "1", "a b", None, True, 3, ["a"], ("a", "b")]
WRONG_NAMES = ["", "A", "g1", "a" * 14, None, True, 0, ["g"], ("g",)]
NAMES = ["a", "b", "c", "c d", " ", "sent a"]


def some_contents(chance):
    return "".join(mark for mark in MARKS if chance.randrange(2))


class Places:
    """Some places that hold boxes, and the model of them."""

    def __init__(self):
        self.boxes = [Box() for _ in range(5)]
        self.model = [set() for _ in range(5)]

    def step(self, chance, test):
        many = len(self.boxes)
        at, one, other = chance.randrange(many), chance.randrange(many), chance.randrange(many)
        action = chance.choice([
            self.share, self.fresh, self.by_sign, self.in_place, self.in_place, self.become, self.copy, self.join,
            self.refuse,
        ])
        action(chance, test, at, one, other)

    def share(self, chance, test, at, one, other):
        self.boxes[at] = self.boxes[one]
        self.model[at] = self.model[one]

    def fresh(self, chance, test, at, one, other):
        contents = some_contents(chance)
        self.boxes[at] = Box(contents)
        self.model[at] = set(contents)

    def by_sign(self, chance, test, at, one, other):
        sign = chance.choice(SIGNS)
        self.boxes[at] = sign(self.boxes[one], self.boxes[other])
        self.model[at] = sign(self.model[one], self.model[other])

    def in_place(self, chance, test, at, one, other):
        sign = chance.choice(SIGNS_IN_PLACE)
        held = self.boxes[at]
        self.boxes[at] = sign(self.boxes[at], self.boxes[one])
        test.assertIs(self.boxes[at], held)
        self.model[at] = sign(self.model[at], self.model[one])

    def become(self, chance, test, at, one, other):
        contents = some_contents(chance)
        self.boxes[at].become(contents)
        self.model[at].clear()
        self.model[at].update(contents)

    def copy(self, chance, test, at, one, other):
        self.boxes[at] = self.boxes[one].copied()
        self.model[at] = set(self.model[one])

    def join(self, chance, test, at, one, other):
        places = [chance.randrange(len(self.boxes)) for _ in range(chance.randrange(4))]
        self.boxes[at] = Box.joined(*[self.boxes[place] for place in places])
        self.model[at] = set().union(*[self.model[place] for place in places])

    def refuse(self, chance, test, at, one, other):
        with test.assertRaises(BadBox):
            self.boxes[at].become(chance.choice(WRONG_CONTENTS))

    def compare(self, test):
        test.assertEqual([box.contents for box in self.boxes], [contents_of(marks) for marks in self.model])
        for box, marks in zip(self.boxes, self.model):
            test.assertEqual((str(box), len(box)), (contents_of(marks), len(marks)))
            test.assertEqual(repr(box), "Box(" + contents_of(marks) + ")")
            test.assertEqual([mark for mark in MARKS if mark in box], sorted(marks))
            test.assertIs(box.crosses, not marks & {"A", "B"})
            for other, others in zip(self.boxes, self.model):
                test.assertIs(box.within(other), marks <= others)
                test.assertIs(box == other, marks is others)


class Worlds:
    """Two worlds that hold boxes of each other, and the model of them: for each a dict of names and sets."""

    def __init__(self):
        self.worlds = [World(), World()]
        self.models = [{}, {}]
        # All boxes that were ever bound, each beside its set: one that has lost its names stays as it was.
        self.seen = []
        self.kept_rows = []

    def step(self, chance, test):
        at = chance.randrange(2)
        action = chance.choice([
            self.fresh, self.share, self.share, self.by_sign, self.in_place, self.in_place, self.become, self.unbind,
            self.copy, self.copy_some, self.read, self.refuse_binding, self.refuse_names,
        ])
        action(chance, test, at)

    def bind(self, at, name, box, marks):
        self.worlds[at][name] = box
        self.models[at][name] = marks
        self.seen.append((box, marks))

    def bound_somewhere(self, chance):
        """The number of a world and a name that is bound there, or None."""
        places = [(at, name) for at in (0, 1) for name in sorted(self.models[at])]
        return chance.choice(places) if places else None

    def fresh(self, chance, test, at):
        contents = some_contents(chance)
        self.bind(at, chance.choice(NAMES), Box(contents), set(contents))

    def share(self, chance, test, at):
        place = self.bound_somewhere(chance)
        if place:
            where, name = place
            self.bind(at, chance.choice(NAMES), self.worlds[where][name], self.models[where][name])

    def by_sign(self, chance, test, at):
        one, other = self.bound_somewhere(chance), self.bound_somewhere(chance)
        if one:
            sign = chance.choice(SIGNS)
            box = sign(self.worlds[one[0]][one[1]], self.worlds[other[0]][other[1]])
            marks = sign(self.models[one[0]][one[1]], self.models[other[0]][other[1]])
            self.bind(at, chance.choice(NAMES), box, marks)

    def in_place(self, chance, test, at):
        one, other = self.bound_somewhere(chance), self.bound_somewhere(chance)
        if one:
            sign = chance.choice(SIGNS_IN_PLACE)
            world, model = self.worlds[one[0]], self.models[one[0]]
            world[one[1]] = sign(world[one[1]], self.worlds[other[0]][other[1]])
            model[one[1]] = sign(model[one[1]], self.models[other[0]][other[1]])

    def become(self, chance, test, at):
        place = self.bound_somewhere(chance)
        if place:
            contents = some_contents(chance)
            self.worlds[place[0]][place[1]].become(contents)
            marks = self.models[place[0]][place[1]]
            marks.clear()
            marks.update(contents)

    def unbind(self, chance, test, at):
        name = chance.choice(NAMES)
        if name in self.models[at]:
            self.worlds[at].unbind(name)
            del self.models[at][name]
        else:
            with test.assertRaises(NoName) as caught:
                self.worlds[at].unbind(name)
            test.assertEqual(caught.exception.name, name)

    def take_copy(self, at, other, names):
        """A world becomes a copy of some names of this or the other one."""
        copies = {id(marks): set(marks) for marks in self.models[other].values()}
        self.models[at] = {name: copies[id(self.models[other][name])] for name in names}
        self.seen += [(self.worlds[at][name], marks) for name, marks in self.models[at].items()]

    def copy(self, chance, test, at):
        other = chance.randrange(2)
        self.worlds[at] = self.worlds[other].copied()
        self.take_copy(at, other, list(self.models[other]))

    def copy_some(self, chance, test, at):
        other = chance.randrange(2)
        names = [chance.choice(NAMES) for _ in range(chance.randrange(5))]
        missing = [name for name in names if name not in self.models[other]]
        given = list(names)
        if missing:
            with test.assertRaises(NoName) as caught:
                self.worlds[other].copied(given)
            test.assertEqual(caught.exception.name, missing[0])
        else:
            self.worlds[at] = self.worlds[other].copied(given)
            self.take_copy(at, other, names)
        test.assertEqual(given, names)

    def read(self, chance, test, at):
        self.worlds[at] = World.read(self.worlds[at].rows())
        self.take_copy(at, at, list(self.models[at]))

    def refuse_binding(self, chance, test, at):
        wrong = chance.choice(WRONG_NAMES)
        with test.assertRaises(BadName):
            self.worlds[at][wrong] = chance.choice([Box(), "a", None])
        with test.assertRaises(BadBox):
            self.worlds[at][chance.choice(NAMES)] = chance.choice(["a", "", None, 1, ["a"], self.worlds[1 - at]])
        place = self.bound_somewhere(chance)
        if place:
            with test.assertRaises(BadBox):
                self.worlds[place[0]][place[1]].become(chance.choice(WRONG_CONTENTS))

    def refuse_names(self, chance, test, at):
        world, wrong = self.worlds[at], chance.choice(WRONG_NAMES)
        for call in (world.unbind, lambda name: world[name], lambda name: world.copied([name])):
            with test.assertRaises(NoName):
                call(wrong)

    def wanted_rows(self, at):
        groups = {}
        for name in sorted(self.models[at]):
            groups.setdefault(id(self.models[at][name]), []).append(name)
        return tuple(sorted((tuple(names), contents_of(self.models[at][names[0]])) for names in groups.values()))

    def compare(self, test):
        for at, (world, model) in enumerate(zip(self.worlds, self.models)):
            rows = self.wanted_rows(at)
            test.assertEqual(world.rows(), rows)
            text = " ".join("=".join(names) + ":" + contents for names, contents in rows)
            test.assertEqual((str(world), repr(world)), (text, "World(" + text + ")"))
            test.assertEqual((world.names(), len(world)), (sorted(model), len(model)))
            test.assertEqual([name for name in NAMES if name in world], [name for name in NAMES if name in model])
            for one in model:
                test.assertEqual(world[one].contents, contents_of(model[one]))
                for other in model:
                    test.assertIs(world.same(one, other), model[one] is model[other])
        for one, marks in self.models[0].items():
            for other, others in self.models[1].items():
                test.assertIs(self.worlds[0][one] is self.worlds[1][other], marks is others)
        self.compare_the_past(test)

    def compare_the_past(self, test):
        self.seen = self.seen[-60:]
        for box, marks in self.seen:
            test.assertEqual(box.contents, contents_of(marks))
        for rows, wanted in self.kept_rows:
            test.assertEqual(rows, wanted)
        rows_now = [(world.rows(), self.wanted_rows(at)) for at, world in enumerate(self.worlds)]
        self.kept_rows = self.kept_rows[-10:] + rows_now


class LongRuns(unittest.TestCase):

    def run_beside_the_model(self, kind, steps):
        for seed in range(8):
            with self.subTest(seed=seed):
                chance, places = random.Random(seed), kind()
                for _ in range(steps):
                    places.step(chance, self)
                    places.compare(self)

    def test_several_places_that_hold_boxes(self):
        self.run_beside_the_model(Places, 150)

    def test_two_worlds_that_hold_boxes_of_each_other(self):
        self.run_beside_the_model(Worlds, 200)


if __name__ == "__main__":
    unittest.main()
