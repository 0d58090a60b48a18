"""World.read: point 7 and the section workerworlds/worlds.py of the interface."""

import itertools
import unittest

from helping import no_strings, own_values, plain_values, same_value
from workerworlds.boxes import Box
from workerworlds.errors import BadWorld
from workerworlds.worlds import World

GOOD = [
    (),
    ((("g",), ""),),
    ((("g",), "Zab"),),
    ((("g", "h"), "ab"), (("x",), "")),
    ((("a", "z"), "b"), (("b", "y"), "b"), (("c",), "a")),
    (((" ", "  ", "a"), "AZaz"), ((" a", "b c"), "AZaz"), (("abcdefghijklm",), "")),
    ((("a",), "z"), (("ab",), "a"), (("b",), "A")),
    ((("sent x", "sent y"), "b"),),
]

# Entries that are wrong wherever they stand, behind entries with names from a to f alone.
WRONG_ENTRIES = [
    # no pair
    (), (("k",),), (("k",), "a", "a"), (("k",), "a", None), ("a",), ((("k",), "a"),), (((("k",), "a"),), "a"),
    # no tuple
    [("k",), "a"], [], "ka", "k", "", None, True, False, 0, 1, Box("a"), World.of(k="a"),
    # names are no tuple, or none
    (["k"], "a"), ("k", "a"), ("kl", "a"), (None, "a"), (1, "a"), (True, "a"), ("", "a"), ([], "a"), ((), "a"),
    (World.of(k="a"), "a"), (World.of(k="a").names(), "a"),
    # no names in it
    (("",), "a"), (("K",), "a"), (("k1",), "a"), (("k" * 14,), "a"), ((None,), "a"), ((1,), "a"), ((True,), "a"),
    ((["k"],), "a"), ((("k",),), "a"), (("k", "L"), "a"), (("K", "k"), "a"), (("k", ""), "a"), (("", "k"), "a"),
    (("k", None), "a"), ((None, "k"), "a"), (("k", 1), "a"), (("k", ["l"]), "a"), (("k", ("l",)), "a"),
    (("k", "l_"), "a"), (("k\n",), "a"), ((Box("a"),), "a"), (("k", Box("a")), "a"),
    # names that are repeated or do not ascend
    (("k", "k"), "a"), (("k", "l", "l"), "a"), (("k", "l", "k"), "a"), (("l", "k"), "a"), (("k", "m", "l"), "a"),
    (("l", "k", "m"), "a"), (("ka", "k"), "a"),
    # no contents
    (("k",), "ba"), (("k",), "aa"), (("k",), "aA"), (("k",), "a1"), (("k",), " "), (("k",), "{a}"), (("k",), None),
    (("k",), 0), (("k",), True), (("k",), False), (("k",), []), (("k",), ()), (("k",), ["a"]), (("k",), ("a",)),
    (("k",), ("a", "b")), (("k",), Box("a")), (("k", "l"), "ba"), (("k",), ("k",)), (("k",), "a" * 3000),
    # the wrong way round
    ("a", ("k",)), ("", ("k",)),
]


class Reading(unittest.TestCase):

    def test_the_document_has_this_example(self):
        world = World.read(((("g", "h"), "ab"), (("x",), "")))
        world["h"].become("b")
        self.assertEqual(world.rows(), ((("g", "h"), "b"), (("x",), "")))

    def test_what_is_read_has_these_rows(self):
        for rows in GOOD:
            with self.subTest(rows):
                world = World.read(rows)
                self.assertIs(world.__class__, World)
                self.assertTrue(same_value(world.rows(), rows))
                self.assertTrue(same_value(World.read(rows=rows).rows(), rows))
                self.assertEqual(world.names(), sorted(name for names, _ in rows for name in names))

    def test_many_names(self):
        names = ["".join(word) for word in itertools.product("abcdefghij", repeat=3)]
        single = tuple([((name,), "a") for name in names])
        together = ((tuple(names), "Aa"),)
        pairs = tuple([((name, name + "z"), "") for name in names])
        for rows in (single, together, pairs):
            # Not assertEqual, which would take minutes to show how so long tuples differ.
            self.assertTrue(same_value(World.read(rows).rows(), rows))

    def test_boxes_are_shared_within_an_entry_alone(self):
        for rows in GOOD:
            world = World.read(rows)
            place = {name: at for at, (names, _) in enumerate(rows) for name in names}
            for one, other in itertools.product(place, repeat=2):
                self.assertIs(world.same(one, other), place[one] == place[other])
                self.assertIs(world[one] is world[other], place[one] == place[other])

    def test_two_readings_share_nothing(self):
        for rows in GOOD[1:]:
            one, other = World.read(rows), World.read(rows)
            for name in one.names():
                self.assertIsNot(one[name], other[name])
                one[name].become("Q")
            one["new"] = Box()
            self.assertEqual(other.rows(), rows)
            self.assertEqual(World.read(rows).rows(), rows)

    def test_the_rows_of_a_world_are_read(self):
        world = World.of(h="Zb", x="", y="Zb")
        world["g"] = world["h"]
        world["z"] = world["x"]
        other = World.read(world.rows())
        self.assertEqual(other.rows(), world.rows())
        other["g"].become("a")
        self.assertEqual((str(world), str(other)), ("g=h:Zb x=z: y:Zb", "g=h:a x=z: y:Zb"))

    def test_read_from_a_world_it_makes_another_one(self):
        world = World.of(g="a")
        self.assertEqual(world.read(((("x",), "b"),)).rows(), ((("x",), "b"),))
        self.assertEqual(world.rows(), ((("g",), "a"),))


class Refusing(unittest.TestCase):

    def refused_at(self, rows):
        with self.assertRaises(BadWorld) as caught:
            World.read(rows)
        self.assertIs(caught.exception.at.__class__, int)
        return caught.exception.at

    def test_no_tuple_at_all(self):
        values = [value for value in no_strings() if not isinstance(value, tuple)]
        for value in values + ["", "g", "g=h:ab", "gh"] + [list(rows) for rows in GOOD]:
            with self.subTest(value):
                self.assertEqual(self.refused_at(value), -1)

    def test_tuples_that_are_no_rows(self):
        for value in plain_values() + own_values():
            if isinstance(value, tuple) and value != () and value != World.of(g="ab", h="").rows():
                if value == ((("g",), "a"),):
                    continue
                with self.subTest(value):
                    self.assertEqual(self.refused_at(value), 0)

    def test_each_wrong_entry_in_each_place(self):
        good = ((("a", "d"), "a"), (("b",), ""), (("c", "e"), "Z"))
        for entry in WRONG_ENTRIES:
            for at in range(len(good) + 1):
                with self.subTest(entry=entry, at=at):
                    self.assertEqual(self.refused_at(good[:at] + (entry,)), at)
                    self.assertEqual(self.refused_at(good[:at] + (entry, (("x",), ""))), at)

    def test_the_first_of_several_wrong_entries(self):
        for one, other in itertools.product(WRONG_ENTRIES[::3], WRONG_ENTRIES[::5]):
            self.assertEqual(self.refused_at((one, other)), 0)
            self.assertEqual(self.refused_at(((("a",), "a"), one, other)), 1)
            self.assertEqual(self.refused_at(((("a",), "a"), one, (("a",), "a"))), 1)

    def test_names_of_earlier_entries(self):
        self.assertEqual(self.refused_at(((("a",), "a"), (("a",), "b"))), 1)
        self.assertEqual(self.refused_at(((("a",), "a"), (("a",), "a"))), 1)
        self.assertEqual(self.refused_at(((("a",), "a"), (("a", "b"), "a"))), 1)
        self.assertEqual(self.refused_at(((("a", "c"), "a"), (("b", "c"), "a"))), 1)
        self.assertEqual(self.refused_at(((("a", "c"), "a"), (("b",), "a"), (("c",), "a"))), 2)
        self.assertEqual(self.refused_at(((("a", "k"), "a"), (("b",), "a"), (("c", "k", "z"), "b"))), 2)
        self.assertEqual(self.refused_at(((("a", "k"), "a"), (("b", "k"), "a"), (("c", "k"), "b"))), 1)

    def test_entries_that_do_not_ascend(self):
        self.assertEqual(self.refused_at(((("b",), ""), (("a",), ""))), 1)
        self.assertEqual(self.refused_at(((("b",), "a"), (("a",), "b"))), 1)
        self.assertEqual(self.refused_at(((("a",), ""), (("c",), ""), (("b",), ""))), 2)
        self.assertEqual(self.refused_at(((("a",), ""), (("c",), ""), (("b", "d"), ""))), 2)
        self.assertEqual(self.refused_at(((("ab",), ""), (("a",), ""))), 1)
        self.assertEqual(self.refused_at(((("a",), ""), ((" ",), ""))), 1)
        self.assertEqual(self.refused_at(((("b", "c"), ""), (("a", "z"), ""), (("K",), ""))), 1)

    def test_names_may_lie_between_those_of_other_entries(self):
        rows = ((("a", "z"), "b"), (("b", "m"), "a"), (("c",), ""), (("d", "l"), ""))
        self.assertEqual(World.read(rows).rows(), rows)

    def test_all_orders_of_some_entries(self):
        entries = [(("a", "k"), "b"), (("b",), "a"), (("c", "d"), "")]
        for places in itertools.permutations(range(3)):
            rows = tuple([entries[place] for place in places])
            falls = [at for at in (1, 2) if places[at] < places[at - 1]]
            if falls:
                self.assertEqual(self.refused_at(rows), falls[0])
            else:
                self.assertEqual(World.read(rows).rows(), rows)

    def test_what_is_refused_stays_as_it_is(self):
        names = ["k"]
        rows = [(("a",), "b")]
        self.refused_at(rows)
        self.refused_at(((names, "a"),))
        self.assertEqual((names, rows), (["k"], [(("a",), "b")]))


if __name__ == "__main__":
    unittest.main()
