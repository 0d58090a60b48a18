"""The signs between boxes, and Box.joined: point 5."""

import itertools
import operator
import unittest

from helping import all_contents, contents_of
from workerworlds.boxes import Box

MARKS = "ABab"
LETTERS = "ABCDEFGHIJKLMNOPQRSTUVWXYZabcdefghijklmnopqrstuvwxyz"
SIGNS = {
    "|": (operator.or_, operator.ior),
    "&": (operator.and_, operator.iand),
    "-": (operator.sub, operator.isub),
    "^": (operator.xor, operator.ixor),
}


class NewBoxes(unittest.TestCase):

    def test_the_document_has_this_example(self):
        self.assertEqual(str(Box("ab") ^ Box("bc")), "ac")

    def test_all_pairs_give_a_new_box_and_leave_both(self):
        for sign, (function, _) in SIGNS.items():
            for left, right in itertools.product(all_contents(MARKS), repeat=2):
                with self.subTest(sign=sign, left=left, right=right):
                    one, other = Box(left), Box(right)
                    made = function(one, other)
                    self.assertIs(made.__class__, Box)
                    self.assertIsNot(made, one)
                    self.assertIsNot(made, other)
                    self.assertEqual(made.contents, contents_of(function(set(left), set(right))))
                    self.assertEqual((one.contents, other.contents), (left, right))

    def test_a_box_with_itself(self):
        for contents in all_contents(MARKS):
            box = Box(contents)
            made = [box | box, box & box, box - box, box ^ box]
            self.assertEqual([other.contents for other in made], [contents, contents, "", ""])
            self.assertEqual(box.contents, contents)
            self.assertFalse(any(other is box for other in made))

    def test_with_all_letters(self):
        for contents in ["", "A", "z", "MNmn", LETTERS]:
            box, full = Box(contents), Box(LETTERS)
            rest = "".join(mark for mark in LETTERS if mark not in contents)
            self.assertEqual((box | full).contents, LETTERS)
            self.assertEqual((full & box).contents, contents)
            self.assertEqual((full - box).contents, rest)
            self.assertEqual((box - full).contents, "")
            self.assertEqual((box ^ full).contents, rest)

    def test_marks_that_lie_between(self):
        self.assertEqual((Box("Yac") | Box("Zb")).contents, "YZabc")
        self.assertEqual((Box("Yac") ^ Box("Zab")).contents, "YZbc")
        self.assertEqual((Box("b") | Box("A")).contents, "Ab")

    def test_results_share_nothing(self):
        for function, _ in SIGNS.values():
            for right in ("", "b", "bc"):
                one, other = Box("ab"), Box(right)
                first, second = function(one, other), function(one, other)
                before = second.contents
                first.become("Q")
                self.assertEqual((one.contents, other.contents, second.contents), ("ab", right, before))
                one.become("R")
                other.become("S")
                self.assertEqual((first.contents, second.contents), ("Q", before))

    def test_signs_one_after_another(self):
        box = (Box("abc") | Box("D")) - Box("b") & Box("Dab")
        self.assertEqual(box.contents, "Da")


class InPlace(unittest.TestCase):

    def test_all_pairs_change_the_very_box_on_the_left(self):
        for sign, (_, function) in SIGNS.items():
            for left, right in itertools.product(all_contents(MARKS), repeat=2):
                with self.subTest(sign=sign, left=left, right=right):
                    one, other = Box(left), Box(right)
                    self.assertIs(function(one, other), one)
                    self.assertEqual(one.contents, contents_of(function(set(left), set(right))))
                    self.assertEqual(other.contents, right)

    def test_the_statements(self):
        box = held = Box("ab")
        box |= Box("Cd")
        self.assertEqual(held.contents, "Cabd")
        box &= Box("Cabx")
        self.assertEqual(held.contents, "Cab")
        box -= Box("ay")
        self.assertEqual(held.contents, "Cb")
        box ^= Box("ab")
        self.assertEqual(held.contents, "Ca")
        self.assertIs(box, held)

    def test_with_itself_on_the_right(self):
        for contents in all_contents(MARKS):
            boxes = [Box(contents) for _ in range(4)]
            held = list(boxes)
            boxes[0] |= boxes[0]
            boxes[1] &= boxes[1]
            boxes[2] -= boxes[2]
            boxes[3] ^= boxes[3]
            self.assertEqual([box.contents for box in held], [contents, contents, "", ""])
            self.assertTrue(all(box is other for box, other in zip(boxes, held)))

    def test_an_item_of_a_list(self):
        for sign, (_, function) in SIGNS.items():
            with self.subTest(sign):
                shared = Box("ab")
                boxes = [shared, Box("ab"), shared]
                boxes[0] = function(boxes[0], Box("bc"))
                wanted = contents_of(function(set("ab"), set("bc")))
                self.assertEqual([box.contents for box in boxes], [wanted, "ab", wanted])
                self.assertIs(boxes[0], shared)
        boxes = [Box("a"), Box("b")]
        first, second = boxes
        boxes[0] |= boxes[1]
        boxes[1] -= boxes[0]
        self.assertIs(boxes[0], first)
        self.assertIs(boxes[1], second)
        self.assertEqual((first.contents, second.contents), ("ab", ""))

    def test_all_who_hold_the_box_see_the_change(self):
        box = Box("a")
        table = {"one": box, "other": [box]}
        table["one"] |= Box("b")
        self.assertEqual((box.contents, table["other"][0].contents), ("ab", "ab"))
        table["other"][0] ^= Box("a")
        self.assertEqual((box.contents, table["one"].contents), ("b", "b"))

    def test_the_left_box_shares_nothing_with_the_right_one(self):
        for _, function in SIGNS.values():
            for left in ("", "a", "ab"):
                one, other = Box(left), Box("ab")
                function(one, other)
                before = one.contents
                other.become("Z")
                self.assertEqual(one.contents, before)
                one.become("Y")
                self.assertEqual(other.contents, "Z")


class Joined(unittest.TestCase):

    def test_without_a_box(self):
        made = Box.joined()
        self.assertIs(made.__class__, Box)
        self.assertEqual(made.contents, "")

    def test_one_box_gives_another_one(self):
        for contents in all_contents(MARKS):
            box = Box(contents)
            made = Box.joined(box)
            self.assertEqual(made.contents, contents)
            self.assertIsNot(made, box)

    def test_several_boxes(self):
        self.assertEqual(Box.joined(Box("b"), Box("Za"), Box(), Box("bc")).contents, "Zabc")
        self.assertEqual(Box.joined(*[Box(mark) for mark in reversed(LETTERS)]).contents, LETTERS)
        for left, right in itertools.product(all_contents(MARKS), repeat=2):
            one, other, third = Box(left), Box(right), Box("Xx")
            made = Box.joined(one, other, third)
            self.assertEqual(made.contents, contents_of(set(left) | set(right) | set("Xx")))
            self.assertEqual((one.contents, other.contents, third.contents), (left, right, "Xx"))

    def test_the_same_box_several_times(self):
        box = Box("ab")
        made = Box.joined(box, box, box)
        self.assertIsNot(made, box)
        self.assertEqual((made.contents, box.contents), ("ab", "ab"))
        self.assertEqual(Box.joined(box, Box("c"), box).contents, "abc")

    def test_results_share_nothing(self):
        box, empty = Box("ab"), Box()
        made = [Box.joined(), Box.joined(), Box.joined(box), Box.joined(box), Box.joined(box, empty),
                Box.joined(empty, box), Box.joined(box, box)]
        for at, other in enumerate(made):
            other.become(LETTERS[at])
        self.assertEqual([other.contents for other in made], list(LETTERS[:len(made)]))
        self.assertEqual((box.contents, empty.contents, Box.joined().contents), ("ab", "", ""))
        box.become("Q")
        self.assertEqual([other.contents for other in made], list(LETTERS[:len(made)]))

    def test_called_from_a_box_it_joins_the_boxes_that_are_passed(self):
        self.assertEqual(Box("z").joined(Box("a"), Box("b")).contents, "ab")


if __name__ == "__main__":
    unittest.main()
