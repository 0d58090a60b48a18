"""Worlds: points 6 and 7, and World of workerworlds/worlds.py, without read and copied."""

import unittest

from helping import no_strings, own_values, same_value
from workerworlds.boxes import Box
from workerworlds.errors import BadBox, BadName, NoName
from workerworlds.worlds import World

SMALL = "abcdefghijklmnopqrstuvwxyz"
NAMES = ["a", "z", " ", "g", "ab", "ba", "a b", " a", "a ", "  ", "sent x", "answer", "item", "names", "self",
         "abcdefghijklm", "nopqrstuvwxyz", "sent abcdefgh", " " * 13, "a" * 13, "zzzzzzzzzzzz ", "a  b"]
NO_NAMES = ["", "A", "Z", "aA", "Aa", "g1", "1", "_", "a_b", "a-b", "a.b", "a\n", "\n", "a\nb", "`", "{", "a{", "`a",
            "@", "[", "a" * 14, " " * 14, "abcdefghijklmn", "sent abcdefghi", "a" * 26, "a" * 3000, "{ab}", "g=", "g,h"]
# All characters that strings may contain, without the letters and the blank.
OTHERS = [chr(code) for code in range(32, 127) if chr(code) not in SMALL + " %"] + ["\n"]


def built():
    """A world in which h and g share a box, and x has another one with the same contents."""
    world = World.of(x="ab", h="ab")
    world["g"] = world["h"]
    return world


class Binding(unittest.TestCase):

    def test_a_new_world_has_no_names(self):
        world = World()
        self.assertEqual((len(world), world.names(), world.rows(), str(world), repr(world)), (0, [], (), "", "World()"))
        world["g"] = Box()
        self.assertEqual(len(World()), 0)

    def test_good_names(self):
        world = World()
        for at, name in enumerate(NAMES):
            with self.subTest(name):
                box = Box("ab")
                world[name] = box
                self.assertIs(world[name], box)
                self.assertIs(name in world, True)
                self.assertEqual(len(world), at + 1)
        self.assertEqual(world.names(), sorted(NAMES))

    def test_each_character_of_a_name(self):
        for character in SMALL + " ":
            for name in (character, "a" + character, character + "a", character * 13):
                world = World()
                world[name] = Box()
                self.assertEqual(world.names(), [name])

    def test_each_length_of_a_name(self):
        for length in range(17):
            world = World()
            if 1 <= length <= 13:
                world["b" * length] = Box()
                self.assertEqual(world.names(), ["b" * length])
            else:
                with self.assertRaises(BadName):
                    world["b" * length] = Box()

    def test_strings_that_are_no_names(self):
        world = built()
        before = world.rows()
        for name in NO_NAMES + OTHERS + ["a" + other for other in OTHERS] + [other + "a" for other in OTHERS]:
            with self.subTest(name[:20]):
                with self.assertRaises(BadName) as caught:
                    world[name] = Box("a")
                self.assertEqual(caught.exception.name, name)
                self.assertIs(name in world, False)
                self.assertEqual(world.rows(), before)

    def test_other_kinds_of_values_are_no_names(self):
        world = built()
        before = world.rows()
        for name in no_strings():
            with self.subTest(name):
                with self.assertRaises(BadName) as caught:
                    world[name] = Box("a")
                self.assertTrue(same_value(caught.exception.name, name))
                self.assertEqual((world.rows(), len(world)), (before, 3))

    def test_only_boxes_are_bound(self):
        world = built()
        held = world["g"]
        others = [value for value in no_strings() if not isinstance(value, Box)]
        for value in others + ["", "ab", "Box(ab)"]:
            for name in ("g", "new"):
                with self.subTest(value=value, name=name):
                    with self.assertRaises(BadBox) as caught:
                        world[name] = value
                    self.assertTrue(same_value(caught.exception.contents, value))
                    self.assertIs(world["g"], held)
                    self.assertEqual(str(world), "g=h:ab x:ab")

    def test_the_name_is_refused_ahead_of_the_box(self):
        world = World()
        for name in ["", "A", "a" * 14, 1, True, None, ["g"]]:
            for value in ["ab", "ba", None, 1, [Box()], World()]:
                with self.subTest(name=name, value=value):
                    with self.assertRaises(BadName) as caught:
                        world[name] = value
                    self.assertTrue(same_value(caught.exception.name, name))
        self.assertEqual(len(world), 0)

    def test_the_box_itself_is_bound(self):
        world, box = World(), Box("a")
        world["g"] = box
        world["h"] = box
        world["x"] = box.copied()
        box |= Box("b")
        self.assertEqual([world[name].contents for name in "ghx"], ["ab", "ab", "a"])
        world["h"] -= Box("a")
        self.assertEqual((box.contents, world["g"].contents), ("b", "b"))
        self.assertIs(world["h"], box)

    def test_one_box_in_two_worlds(self):
        one, other = World(), World()
        one["g"] = Box("a")
        other["x"] = one["g"]
        other["x"].become("Z")
        self.assertEqual((one.rows(), other.rows()), (((("g",), "Z"),), ((("x",), "Z"),)))
        one.unbind("g")
        self.assertEqual((one.rows(), other.rows()), ((), ((("x",), "Z"),)))

    def test_binding_again_leaves_the_former_box(self):
        world = built()
        former, fresh = world["g"], Box("Q")
        world["g"] = fresh
        self.assertIs(world["g"], fresh)
        self.assertIs(world["h"], former)
        self.assertEqual((former.contents, fresh.contents, len(world)), ("ab", "Q", 3))
        self.assertEqual(world.rows(), ((("g",), "Q"), (("h",), "ab"), (("x",), "ab")))

    def test_binding_again_to_the_same_box(self):
        world = built()
        world["g"] = world["g"]
        world["h"] = world["g"]
        self.assertEqual(str(world), "g=h:ab x:ab")

    def test_changing_in_place_by_a_sign(self):
        world = built()
        held = world["g"]
        world["g"] |= Box("c")
        world["x"] ^= world["h"]
        self.assertIs(world["g"], held)
        self.assertIs(world["h"], held)
        self.assertEqual(str(world), "g=h:abc x:c")


class Looking(unittest.TestCase):

    def test_the_box_itself_is_given(self):
        world = built()
        self.assertIs(world["g"], world["h"])
        self.assertIs(world["g"], world["g"])
        self.assertIsNot(world["g"], world["x"])

    def test_names_that_are_not_bound(self):
        world = built()
        for name in NAMES + NO_NAMES + no_strings():
            if name in ("g", "h", "x"):
                continue
            with self.subTest(name):
                with self.assertRaises(NoName) as caught:
                    world[name]
                self.assertTrue(same_value(caught.exception.name, name))
                self.assertIs(name in world, False)
                self.assertIs(name not in world, True)
        self.assertEqual(world.names(), ["g", "h", "x"])

    def test_a_tuple_of_names_is_no_name(self):
        world = built()
        for name in (("g",), ["g"], ("g", "h"), [["g"]]):
            self.assertIs(name in world, False)
            with self.assertRaises(NoName):
                world[name]

    def test_in_tells_true_for_bound_names(self):
        world = built()
        for name in ("g", "h", "x"):
            self.assertIs(name in world, True)
        self.assertIs("ab" in world, False)
        self.assertIs(world["g"] in world, False)

    def test_len_counts_names_and_not_boxes(self):
        self.assertEqual(len(built()), 3)
        world = World()
        shared = Box()
        for at, name in enumerate(SMALL):
            world[name] = shared
            self.assertEqual(len(world), at + 1)

    def test_names_ascend(self):
        world = World.of(**{"z": "", "b": "", " ": "", "ab": "", "a": "", "a b": ""})
        self.assertEqual(world.names(), [" ", "a", "a b", "ab", "b", "z"])
        self.assertIs(world.names().__class__, list)

    def test_the_list_of_names_is_new(self):
        world = built()
        names = world.names()
        names.append("y")
        names[0] = "q"
        self.assertEqual((world.names(), len(world), "y" in world), (["g", "h", "x"], 3, False))
        former = world.names()
        world.unbind("h")
        self.assertEqual((former, world.names()), (["g", "h", "x"], ["g", "x"]))


class Unbinding(unittest.TestCase):

    def test_one_name_goes_and_the_box_stays(self):
        world = built()
        box = world["g"]
        world.unbind("g")
        self.assertEqual(world.rows(), ((("h",), "ab"), (("x",), "ab")))
        self.assertIs("g" in world, False)
        self.assertIs(world["h"], box)
        self.assertEqual((box.contents, len(world)), ("ab", 2))
        with self.assertRaises(NoName):
            world["g"]

    def test_by_name(self):
        world = built()
        world.unbind(name="x")
        self.assertEqual(world.names(), ["g", "h"])

    def test_a_name_can_be_bound_again(self):
        world = built()
        world.unbind("g")
        world["g"] = Box("Z")
        self.assertEqual(str(world), "g:Z h:ab x:ab")

    def test_names_that_are_not_bound(self):
        world = built()
        for name in NAMES + NO_NAMES + no_strings():
            if name in ("g", "h", "x"):
                continue
            with self.subTest(name):
                with self.assertRaises(NoName) as caught:
                    world.unbind(name)
                self.assertTrue(same_value(caught.exception.name, name))
        self.assertEqual(str(world), "g=h:ab x:ab")

    def test_twice(self):
        world = built()
        world.unbind("g")
        with self.assertRaises(NoName) as caught:
            world.unbind("g")
        self.assertEqual(caught.exception.name, "g")
        world.unbind("h")
        world.unbind("x")
        self.assertEqual((len(world), world.rows()), (0, ()))


class Sharing(unittest.TestCase):

    def test_same(self):
        world = built()
        self.assertIs(world.same("g", "h"), True)
        self.assertIs(world.same("h", "g"), True)
        self.assertIs(world.same("g", "g"), True)
        self.assertIs(world.same("g", "x"), False)
        self.assertIs(world.same("x", "h"), False)
        self.assertIs(world.same(other="g", one="h"), True)

    def test_same_follows_binding(self):
        world = built()
        world["x"] = world["g"]
        self.assertIs(world.same("x", "h"), True)
        world["g"] = Box("ab")
        self.assertIs(world.same("g", "h"), False)
        self.assertIs(world.same("x", "h"), True)

    def test_the_first_name_that_is_not_bound(self):
        world = built()
        for one, other, missing in [("y", "z", "y"), ("z", "y", "z"), ("g", "y", "y"), ("y", "g", "y"), ("y",) * 3]:
            with self.subTest(one=one, other=other):
                with self.assertRaises(NoName) as caught:
                    world.same(one, other)
                self.assertEqual(caught.exception.name, missing)

    def test_other_kinds_of_values(self):
        world = built()
        for value in no_strings():
            for one, other in [(value, "g"), ("g", value), (value, "nobody"), (value, value)]:
                with self.subTest(value=value):
                    with self.assertRaises(NoName) as caught:
                        world.same(one, other)
                    self.assertTrue(same_value(caught.exception.name, value))


class Rows(unittest.TestCase):

    def test_the_document_has_this_example(self):
        world = World.of(h="ab", x="")
        world["g"] = world["h"]
        self.assertEqual((str(world), repr(world)), ("g=h:ab x:", "World(g=h:ab x:)"))

    def test_names_that_share_stand_together(self):
        world, shared = World(), Box("Zz")
        for name, box in [("m", shared), ("b", Box("a")), ("z", shared), ("a", shared), ("c", Box("a")), ("k", Box())]:
            world[name] = box
        rows = ((("a", "m", "z"), "Zz"), (("b",), "a"), (("c",), "a"), (("k",), ""))
        self.assertTrue(same_value(world.rows(), rows))
        self.assertEqual(str(world), "a=m=z:Zz b:a c:a k:")
        self.assertEqual(repr(world), "World(a=m=z:Zz b:a c:a k:)")

    def test_the_order_is_that_of_the_names(self):
        world = World.of(**{"b": "a", "a": "z", "ab": "A", " ": "M", "a b": ""})
        self.assertEqual([names for names, _ in world.rows()], [(" ",), ("a",), ("a b",), ("ab",), ("b",)])
        self.assertEqual(world.rows(), tuple(sorted(world.rows())))
        self.assertEqual(str(world), " :M a:z a b: ab:A b:a")

    def test_they_follow_each_change(self):
        world = built()
        self.assertEqual(str(world), "g=h:ab x:ab")
        world["h"].become("Z")
        self.assertEqual((str(world), repr(world)), ("g=h:Z x:ab", "World(g=h:Z x:ab)"))
        world["h"] = world["x"]
        self.assertEqual(world.rows(), ((("g",), "Z"), (("h", "x"), "ab")))
        self.assertEqual((str(world), repr(world)), ("g:Z h=x:ab", "World(g:Z h=x:ab)"))
        world.unbind("x")
        self.assertEqual((str(world), repr(world)), ("g:Z h:ab", "World(g:Z h:ab)"))
        world["a"] = world["g"]
        world["a"] |= world["h"]
        self.assertEqual((str(world), repr(world)), ("a=g:Zab h:ab", "World(a=g:Zab h:ab)"))

    def test_rows_that_were_returned_stay_as_they_were(self):
        world = built()
        rows = world.rows()
        world["g"].become("")
        world["x"] |= Box("c")
        world["y"] = Box()
        world.unbind("h")
        self.assertEqual(rows, ((("g", "h"), "ab"), (("x",), "ab")))
        self.assertEqual(world.rows(), ((("g",), ""), (("x",), "abc"), (("y",), "")))

    def test_asking_changes_nothing(self):
        world = built()
        boxes = [world[name] for name in world.names()]
        for _ in range(3):
            self.assertEqual((world.rows(), str(world)), (((("g", "h"), "ab"), (("x",), "ab")), "g=h:ab x:ab"))
            self.assertTrue(all(world[name] is box for name, box in zip(world.names(), boxes)))

    def test_two_worlds_have_the_same_rows_if_they_share_and_hold_alike(self):
        one, other = built(), World.of(g="ab", h="ab", x="ab")
        self.assertNotEqual(one.rows(), other.rows())
        other["h"] = other["g"]
        self.assertEqual(one.rows(), other.rows())
        other["x"].become("a")
        self.assertNotEqual(one.rows(), other.rows())


class Of(unittest.TestCase):

    def test_each_name_gets_these_contents(self):
        self.assertEqual(World.of(g="ab", x="", y="Z").rows(), ((("g",), "ab"), (("x",), ""), (("y",), "Z")))
        self.assertIs(World.of().__class__, World)
        self.assertEqual(World.of().rows(), ())

    def test_each_name_gets_a_box_of_its_own(self):
        world, other = World.of(g="ab", h="ab", x=""), World.of(g="ab", h="ab", x="")
        self.assertIs(world.same("g", "h"), False)
        world["g"].become("Q")
        self.assertEqual((str(world), str(other)), ("g:Q h:ab x:", "g:ab h:ab x:"))

    def test_any_name_may_be_a_keyword(self):
        for name in NAMES + ["contents", "rows", "name", "cls", "world", "box", "lambda", "one", "names", "key"]:
            with self.subTest(name):
                self.assertEqual(World.of(**{name: "ab"}).rows(), (((name,), "ab"),))
        given = {name: "" for name in NAMES}
        self.assertEqual(World.of(**given).names(), sorted(NAMES))

    def test_keywords_that_are_no_names(self):
        for name in NO_NAMES:
            with self.subTest(name[:20]):
                with self.assertRaises(BadName) as caught:
                    World.of(**{name: "ab"})
                self.assertEqual(caught.exception.name, name)

    def test_values_that_are_no_contents(self):
        for value in no_strings() + ["ba", "aa", "a1", "aA", " ", "a" * 3000]:
            with self.subTest(value):
                with self.assertRaises(BadBox) as caught:
                    World.of(g=value)
                self.assertTrue(same_value(caught.exception.contents, value))

    def test_the_name_is_refused_ahead_of_its_contents(self):
        for value in ("ba", None, 1):
            with self.assertRaises(BadName) as caught:
                World.of(**{"g": "a", "H": value})
            self.assertEqual(caught.exception.name, "H")

    def test_the_first_that_is_wrong_in_the_order_given(self):
        with self.assertRaises(BadBox) as caught:
            World.of(**{"z": "ba", "A": "ab"})
        self.assertEqual(caught.exception.contents, "ba")
        with self.assertRaises(BadName) as caught:
            World.of(**{"A": "ab", "b": "ba"})
        self.assertEqual(caught.exception.name, "A")
        with self.assertRaises(BadBox) as caught:
            World.of(b="cc", a="dd")
        self.assertEqual(caught.exception.contents, "cc")
        with self.assertRaises(BadName) as caught:
            World.of(**{"b": "", "z1": "", "a1": "", "c": "dd"})
        self.assertEqual(caught.exception.name, "z1")
        with self.assertRaises(BadBox) as caught:
            World.of(**{"b": "", "z": "yx", "a1": "", "c": "dd"})
        self.assertEqual(caught.exception.contents, "yx")

    def test_the_dict_that_is_passed_stays_as_it_is(self):
        given = {"h": "ab", "g": ""}
        World.of(**given)
        self.assertEqual(list(given.items()), [("h", "ab"), ("g", "")])

    def test_called_from_a_world_it_makes_another_one(self):
        world = built()
        self.assertEqual((world.of(y="a").rows(), str(world)), (((("y",), "a"),), "g=h:ab x:ab"))


class Interface(unittest.TestCase):

    def test_world_is_defined_here_with_all_its_methods(self):
        self.assertEqual(World.__module__, "workerworlds.worlds")
        for name in ("names", "unbind", "same", "copied", "rows", "of", "read"):
            self.assertIn(name, World.__dict__)
        for name in ("of", "read"):
            self.assertIsInstance(World.__dict__[name], staticmethod)

    def test_values_of_the_package_are_no_names(self):
        for value in own_values():
            self.assertIs(value in World.of(g="ab", h=""), False)


if __name__ == "__main__":
    unittest.main()
