"""Boxes: point 4 and the section workerworlds/boxes.py of the interface."""

import itertools
import unittest

from helping import all_contents, no_strings, same_value
from workerworlds.boxes import Box
from workerworlds.errors import BadBox

CAPITALS = "ABCDEFGHIJKLMNOPQRSTUVWXYZ"
SMALL = "abcdefghijklmnopqrstuvwxyz"
LETTERS = CAPITALS + SMALL
# The characters beside the letters are the ones that a wrong bound would let in.
OTHERS = " !\"#$&'()*+,-./0189:;<=>?@[\\]^_`{|}~\n"

GOOD = ["", "a", "z", "A", "Z", "ab", "az", "AZ", "Za", "Aa", "ABab", "Zz", CAPITALS, SMALL, LETTERS, LETTERS[1:-1]]
WRONG = [
    "ba", "aA", "aZ", "zA", "BA", "abA", "bB", "aB", "acb", "ABba", "BAab", "aab", "aa", "AA", "abb", "aba", "AaA",
    "a b", " ", " a", "a ", "a\n", "\n", "1", "a1", "1a", "_", "a_", "{ab}",
    "[", "Z[", "A[a", "@", "@A", "`", "`a", "z{",
    LETTERS + "z", LETTERS + "a", SMALL + CAPITALS, LETTERS[::-1], "a" * 3000, LETTERS * 57, "ab" * 1500,
]


class Contents(unittest.TestCase):

    def test_good_contents(self):
        for contents in GOOD:
            with self.subTest(contents):
                self.assertEqual(Box(contents).contents, contents)
                self.assertIs(Box(contents).contents.__class__, str)

    def test_each_number_of_marks_up_to_all(self):
        for many in range(len(LETTERS) + 1):
            self.assertEqual(Box(LETTERS[:many]).contents, LETTERS[:many])
            self.assertEqual(Box(LETTERS[many:]).contents, LETTERS[many:])

    def test_a_box_without_contents_is_empty(self):
        self.assertEqual(Box().contents, "")
        self.assertEqual(Box("").contents, "")

    def test_contents_by_name(self):
        self.assertEqual(Box(contents="Aab").contents, "Aab")

    def test_wrong_strings(self):
        for contents in WRONG:
            with self.subTest(contents[:20]):
                with self.assertRaises(BadBox) as caught:
                    Box(contents)
                self.assertEqual(caught.exception.contents, contents)

    def test_other_characters(self):
        for character in OTHERS:
            for contents in (character, "a" + character, character + "a", "A" + character + "a"):
                with self.subTest(contents), self.assertRaises(BadBox):
                    Box(contents)

    def test_all_short_strings(self):
        for length in range(5):
            for marks in itertools.product("ABab[", repeat=length):
                contents = "".join(marks)
                is_good = "[" not in marks and list(marks) == sorted(set(marks))
                if is_good:
                    self.assertEqual(Box(contents).contents, contents)
                else:
                    with self.assertRaises(BadBox) as caught:
                        Box(contents)
                    self.assertEqual(caught.exception.contents, contents)

    def test_all_pairs_of_letters(self):
        for one, other in itertools.product(LETTERS, LETTERS):
            if LETTERS.index(one) < LETTERS.index(other):
                self.assertEqual(Box(one + other).contents, one + other)
            else:
                with self.assertRaises(BadBox):
                    Box(one + other)

    def test_other_kinds_of_values(self):
        for value in no_strings():
            with self.subTest(value):
                with self.assertRaises(BadBox) as caught:
                    Box(value)
                self.assertTrue(same_value(caught.exception.contents, value))

    def test_a_refused_list_stays_as_it_is(self):
        value = ["b", "a"]
        with self.assertRaises(BadBox):
            Box(value)
        self.assertEqual(value, ["b", "a"])

    def test_two_boxes_with_the_same_contents_are_two_boxes(self):
        one, other = Box("ab"), Box("ab")
        one.become("c")
        self.assertEqual((one.contents, other.contents), ("c", "ab"))
        one, other = Box(), Box()
        one.become("c")
        self.assertEqual((one.contents, other.contents, Box().contents), ("c", "", ""))


class Equality(unittest.TestCase):

    def test_only_the_same_box_is_equal(self):
        box, other = Box("ab"), Box("ab")
        held = box
        self.assertIs(box == held, True)
        self.assertIs(box != held, False)
        self.assertIs(box == other, False)
        self.assertIs(box != other, True)
        self.assertIs(Box() == Box(), False)
        self.assertIs(box == "ab", False)

    def test_box_defines_no_equality(self):
        self.assertIs(Box.__eq__, object.__eq__)
        self.assertIs(Box.__ne__, object.__ne__)

    def test_a_box_stays_the_same_key_when_it_changes(self):
        box, other = Box("a"), Box("a")
        table = {box: 1, other: 2}
        box.become("b")
        other |= Box("b")
        self.assertEqual((table[box], table[other], len(table)), (1, 2, 2))

    def test_lists_of_boxes_tell_them_apart(self):
        boxes = [Box("a"), Box("a"), Box("a")]
        self.assertEqual([boxes.index(box) for box in boxes], [0, 1, 2])


class Shown(unittest.TestCase):

    def test_str_is_the_contents(self):
        for contents in GOOD:
            self.assertEqual(str(Box(contents)), contents)
            self.assertEqual(f"{Box(contents)}", contents)

    def test_repr(self):
        self.assertEqual(repr(Box("ab")), "Box(ab)")
        self.assertEqual(repr(Box()), "Box()")
        for contents in GOOD:
            self.assertEqual(repr(Box(contents)), "Box(" + contents + ")")
        self.assertEqual(str([Box("a"), Box("AZa")]), "[Box(a), Box(AZa)]")

    def test_len_is_the_number_of_marks(self):
        for contents in GOOD:
            self.assertEqual(len(Box(contents)), len(contents))
        self.assertEqual(len(Box(LETTERS)), 52)

    def test_they_follow_changes(self):
        box = Box("ab")
        box.become("Zab")
        self.assertEqual((str(box), repr(box), len(box), "Z" in box), ("Zab", "Box(Zab)", 3, True))
        box &= Box("Z")
        self.assertEqual((str(box), repr(box), len(box), "a" in box), ("Z", "Box(Z)", 1, False))


class Holding(unittest.TestCase):

    def test_each_mark(self):
        for contents in GOOD:
            box = Box(contents)
            for mark in LETTERS:
                self.assertIs(mark in box, mark in contents)
                self.assertIs(mark not in box, mark not in contents)

    def test_strings_that_are_no_marks(self):
        box = Box(LETTERS)
        for thing in ["", "ab", "AB", "bc", LETTERS, "a ", " ", "1", "[", "@", "`", "{", "\n", "a" * 3000]:
            with self.subTest(thing[:20]):
                self.assertIs(thing in box, False)

    def test_several_marks_are_no_mark_of_a_box_that_holds_just_them(self):
        self.assertIs("ab" in Box("ab"), False)
        self.assertIs("" in Box("ab"), False)
        self.assertIs("" in Box(), False)
        self.assertIs("a" in Box(), False)

    def test_other_kinds_of_values(self):
        box = Box(LETTERS)
        for value in no_strings():
            with self.subTest(value):
                self.assertIs(value in box, False)


class Crossing(unittest.TestCase):

    def test_a_box_crosses_if_it_has_no_bound_mark(self):
        for contents in ["", "a", "z", "abc", SMALL]:
            self.assertIs(Box(contents).crosses, True)
        for contents in ["A", "Z", "AZ", "Aa", "Zz", "M" + SMALL, CAPITALS, LETTERS]:
            self.assertIs(Box(contents).crosses, False)

    def test_each_letter(self):
        for mark in LETTERS:
            self.assertIs(Box(mark).crosses, mark in SMALL)

    def test_it_follows_changes(self):
        box = Box("Aa")
        box -= Box("A")
        self.assertIs(box.crosses, True)
        box |= Box("B")
        self.assertIs(box.crosses, False)
        box.become("")
        self.assertIs(box.crosses, True)


class Within(unittest.TestCase):

    def test_all_pairs(self):
        for one, other in itertools.product(all_contents("ABab"), repeat=2):
            with self.subTest(one=one, other=other):
                self.assertIs(Box(one).within(Box(other)), set(one) <= set(other))

    def test_a_box_is_within_itself(self):
        for contents in GOOD:
            box = Box(contents)
            self.assertIs(box.within(box), True)
            self.assertIs(box.within(other=Box(contents)), True)
            self.assertIs(Box().within(box), True)
            self.assertIs(box.within(Box(LETTERS)), True)

    def test_marks_need_not_stand_together(self):
        self.assertIs(Box("ac").within(Box("abc")), True)
        self.assertIs(Box("Ac").within(Box("ABbc")), True)
        self.assertIs(Box("ac").within(Box("ab")), False)

    def test_both_boxes_stay_as_they_are(self):
        one, other = Box("ac"), Box("abc")
        one.within(other)
        other.within(one)
        self.assertEqual((one.contents, other.contents), ("ac", "abc"))


class Copied(unittest.TestCase):

    def test_a_copy_is_a_new_box_with_the_same_contents(self):
        for contents in GOOD:
            box = Box(contents)
            other = box.copied()
            self.assertIsInstance(other, Box)
            self.assertIsNot(other, box)
            self.assertEqual(other.contents, contents)

    def test_box_and_copy_share_nothing(self):
        box = Box("ab")
        one, other = box.copied(), box.copied()
        box |= Box("c")
        one.become("A")
        self.assertEqual((box.contents, one.contents, other.contents), ("abc", "A", "ab"))


class Become(unittest.TestCase):

    def test_it_changes_the_box_in_place_for_all_who_hold_it(self):
        box = Box("ab")
        held, others = box, [box, Box("ab"), box]
        for contents in GOOD:
            box.become(contents)
            self.assertIs(others[0], box)
            self.assertEqual([held.contents] + [other.contents for other in others], [contents] * 2 + ["ab", contents])

    def test_contents_by_name(self):
        box = Box("ab")
        box.become(contents="Z")
        self.assertEqual(box.contents, "Z")

    def test_it_may_become_what_it_is(self):
        box = Box("ab")
        box.become(box.contents)
        self.assertEqual(box.contents, "ab")

    def test_wrong_strings_change_nothing(self):
        box = Box("Bb")
        for contents in WRONG:
            with self.subTest(contents[:20]):
                with self.assertRaises(BadBox) as caught:
                    box.become(contents)
                self.assertEqual(caught.exception.contents, contents)
                self.assertEqual(box.contents, "Bb")

    def test_other_kinds_of_values_change_nothing(self):
        box = Box("Bb")
        for value in no_strings():
            with self.subTest(value):
                with self.assertRaises(BadBox) as caught:
                    box.become(value)
                self.assertTrue(same_value(caught.exception.contents, value))
                self.assertEqual((str(box), len(box)), ("Bb", 2))


class Interface(unittest.TestCase):

    def test_box_is_defined_here_with_all_its_methods(self):
        self.assertEqual(Box.__module__, "workerworlds.boxes")
        for name in ("crosses", "become", "within", "copied", "joined"):
            self.assertIn(name, Box.__dict__)
        self.assertIsInstance(Box.__dict__["crosses"], property)
        self.assertIsInstance(Box.__dict__["joined"], staticmethod)


if __name__ == "__main__":
    unittest.main()
