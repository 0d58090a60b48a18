"""World.copied: point 8 and the section workerworlds/worlds.py of the interface."""

import itertools
import unittest

from helping import no_strings, same_value
from workerworlds.boxes import Box
from workerworlds.errors import NoName
from workerworlds.worlds import World

ROWS = ((("a", "d", "g"), "ab"), (("b", "e"), "ab"), (("c",), "Z"), (("f",), ""))


def rows_of_some(names):
    """The rows that a copy of these names of ROWS has."""
    found = []
    for together, contents in ROWS:
        kept = tuple(name for name in together if name in names)
        if kept:
            found.append((kept, contents))
    return tuple(sorted(found))


class AllNames(unittest.TestCase):

    def test_a_copy_has_the_same_rows(self):
        for rows in [(), ROWS, ((("g", "h"), "ab"), (("x",), ""))]:
            world = World.read(rows)
            for other in (world.copied(), world.copied(None), world.copied(names=None)):
                self.assertIs(other.__class__, World)
                self.assertTrue(same_value(other.rows(), rows))
                self.assertEqual(len(other), sum(len(names) for names, _ in rows))

    def test_names_share_in_the_copy_as_in_the_world(self):
        world = World.read(ROWS)
        other = world.copied()
        for one, two in itertools.product(world.names(), repeat=2):
            self.assertIs(other.same(one, two), world.same(one, two))
            self.assertIs(other[one] is other[two], world.same(one, two))

    def test_no_box_is_in_both(self):
        world = World.read(ROWS)
        other, third = world.copied(), world.copied()
        self.assertIsNot(other, world)
        for one, two in itertools.product(world.names(), repeat=2):
            self.assertIsNot(world[one], other[two])
            self.assertIsNot(other[one], third[two])

    def test_changes_do_not_reach_the_other_one(self):
        world = World.read(ROWS)
        other = world.copied()
        for name in world.names():
            world[name].become("Q")
        self.assertEqual(other.rows(), ROWS)
        other["a"] |= Box("R")
        other["b"] = other["a"]
        other["new"] = Box()
        other.unbind("c")
        self.assertEqual({contents for _, contents in world.rows()}, {"Q"})
        self.assertEqual(str(other), "a=b=d=g:Rab e:ab f: new:")
        self.assertEqual(world.names(), list("abcdefg"))

    def test_the_world_stays_as_it_is(self):
        world = World.read(ROWS)
        boxes = {name: world[name] for name in world.names()}
        world.copied()
        world.copied(["a", "b"])
        self.assertEqual(world.rows(), ROWS)
        self.assertTrue(all(world[name] is box for name, box in boxes.items()))

    def test_a_copy_of_a_copy(self):
        world = World.read(ROWS)
        self.assertEqual(world.copied().copied(["g", "a", "c"]).copied().rows(), ((("a", "g"), "ab"), (("c",), "Z")))

    def test_a_copy_has_what_the_boxes_hold_now(self):
        world = World.read(ROWS)
        first = world.copied()
        world["d"].become("")
        self.assertEqual((str(first["g"]), str(world.copied()["g"])), ("ab", ""))


class SomeNames(unittest.TestCase):

    def test_a_list_or_a_tuple(self):
        world = World.read(ROWS)
        for many in range(4):
            for names in itertools.permutations("abcdefg", many):
                for given in (names, list(names)):
                    other = world.copied(given)
                    self.assertEqual(other.rows(), rows_of_some(names))
                    self.assertEqual(other.names(), sorted(names))
        self.assertEqual(world.copied(names=("g", "b", "a")).rows(), ((("a", "g"), "ab"), (("b",), "ab")))

    def test_without_names_the_copy_is_empty(self):
        world = World.read(ROWS)
        for other in (world.copied([]), world.copied(()), world.copied(names=()), World().copied(), World().copied([])):
            self.assertEqual((other.rows(), len(other)), ((), 0))

    def test_repeated_names(self):
        world = World.read(ROWS)
        for many in (2, 3, 4):
            for names in itertools.product("adb", repeat=many):
                other = world.copied(list(names))
                self.assertEqual(other.rows(), rows_of_some(names))
                self.assertEqual(len(other), len(set(names)))
                self.assertEqual(world.copied(names).rows(), rows_of_some(names))
        self.assertIs(world.copied(["a", "d", "a"]).same("a", "d"), True)

    def test_no_box_is_in_both(self):
        world = World.read(ROWS)
        other = world.copied(["d", "c", "a", "d"])
        for one, two in itertools.product(other.names(), world.names()):
            self.assertIsNot(other[one], world[two])
        other["a"] ^= Box("Qb")
        self.assertEqual((str(other), world.rows()), ("a=d:Qa c:Z", ROWS))
        world["a"].become("")
        self.assertEqual(str(other), "a=d:Qa c:Z")

    def test_the_list_that_is_passed(self):
        world = World.read(ROWS)
        names = ["g", "b", "a", "b"]
        other = world.copied(names)
        self.assertEqual(names, ["g", "b", "a", "b"])
        names.append("c")
        names[0] = "f"
        self.assertEqual(str(other), "a=g:ab b:ab")


class Refusing(unittest.TestCase):

    def refused(self, world, names):
        with self.assertRaises(NoName) as caught:
            world.copied(names)
        return caught.exception.name

    def test_the_first_name_that_is_not_bound(self):
        world = World.read(ROWS)
        cases = [
            (["z"], "z"), (["a", "z"], "z"), (["z", "a"], "z"), (["z", "y"], "z"), (["y", "z"], "y"),
            (["a", "y", "x", "b"], "y"), (["a", "a", "q", "a"], "q"), (["a", ""], ""), (["A"], "A"),
            (["a", "a" * 14], "a" * 14), (["ab"], "ab"),
        ]
        for names, missing in cases:
            with self.subTest(names):
                self.assertEqual(self.refused(world, names), missing)
                self.assertEqual(self.refused(world, tuple(names)), missing)
        self.assertEqual(self.refused(World(), ["a"]), "a")
        self.assertEqual(world.rows(), ROWS)

    def test_other_kinds_of_values(self):
        world = World.read(ROWS)
        for value in no_strings():
            with self.subTest(value):
                self.assertTrue(same_value(self.refused(world, [value]), value))
                self.assertTrue(same_value(self.refused(world, ("a", value, "z")), value))
                self.assertTrue(same_value(self.refused(world, ["a", "z", value]), "z"))

    def test_a_refused_list_stays_as_it_is(self):
        world = World.read(ROWS)
        names = ["b", "a", "z", "a"]
        self.refused(world, names)
        self.assertEqual((names, world.rows()), (["b", "a", "z", "a"], ROWS))

    def test_a_name_that_was_unbound(self):
        world = World.read(ROWS)
        world.unbind("d")
        self.assertEqual(self.refused(world, ["a", "d"]), "d")
        self.assertEqual(str(world.copied(["g", "a"])), "a=g:ab")


if __name__ == "__main__":
    unittest.main()
