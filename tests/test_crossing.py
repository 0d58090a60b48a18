"""crossed: point 16 and the section workerworlds/crossing.py of the interface."""

import itertools
import random
import unittest

from helping import all_contents, raised
from workerworlds import crossing
from workerworlds.boxes import Box
from workerworlds.crossing import crossed
from workerworlds.errors import CannotCross


def same_places(boxes):
    """For each place of the list the first place that holds the same box."""
    return [min(at for at, other in enumerate(boxes) if other is box) for box in boxes]


class Copies(unittest.TestCase):

    def test_where_it_stands(self):
        self.assertEqual(crossing.crossed.__module__, "workerworlds.crossing")

    def test_no_boxes(self):
        boxes = []
        copies = crossed(boxes)
        self.assertEqual(copies, [])
        self.assertIsNot(copies, boxes)
        self.assertIs(copies.__class__, list)

    def test_new_boxes_with_the_same_contents(self):
        for contents in all_contents("abz"):
            box = Box(contents)
            copies = crossed([box])
            self.assertEqual(len(copies), 1)
            self.assertIs(copies[0].__class__, Box)
            self.assertIsNot(copies[0], box)
            self.assertEqual((str(copies[0]), str(box)), (contents, contents))

    def test_boxes_with_the_same_contents_stay_two(self):
        one, other = crossed([Box("a"), Box("a")])
        self.assertIsNot(one, other)
        one |= Box("b")
        self.assertEqual((str(one), str(other)), ("ab", "a"))

    def test_places_that_hold_one_box_hold_one_copy(self):
        kept = [Box("a"), Box("a"), Box("")]
        for many in range(5):
            for places in itertools.product(range(3), repeat=many):
                boxes = [kept[at] for at in places]
                copies = crossed(boxes)
                self.assertEqual([str(box) for box in copies], [str(box) for box in boxes])
                self.assertEqual(same_places(copies), same_places(boxes))
                self.assertFalse([box for box in copies for other in kept if box is other])

    def test_each_call_makes_new_copies(self):
        box = Box("a")
        one, other = crossed([box]), crossed([box])
        self.assertIsNot(one[0], other[0])
        third = crossed(one)
        self.assertIsNot(third[0], one[0])
        self.assertEqual(str(third[0]), "a")

    def test_copies_have_what_the_boxes_hold_now(self):
        box = Box("Z")
        box.become("b")
        copies = crossed([box])
        box.become("a")
        self.assertEqual((str(copies[0]), str(crossed([box])[0])), ("b", "a"))
        copies[0].become("")
        self.assertEqual(str(box), "a")

    def test_the_list_stays_as_it_is(self):
        first, second = Box("a"), Box("")
        boxes = [first, second, first]
        copies = crossed(boxes)
        self.assertEqual(len(boxes), 3)
        self.assertTrue(boxes[0] is first and boxes[1] is second and boxes[2] is first)
        copies.append(Box())
        copies[0] = None
        self.assertEqual(len(boxes), 3)
        self.assertIs(boxes[0], first)

    def test_many_boxes(self):
        kept = [Box("a") for _ in range(60)]
        copies = crossed(kept * 2)
        self.assertEqual(same_places(copies), list(range(60)) * 2)


class BoundMarks(unittest.TestCase):

    def test_the_first_one_that_does_not_cross(self):
        contents = ["a", "Z", "", "Yb"]
        for many in range(5):
            for choice in itertools.product(contents, repeat=many):
                boxes = [Box(marks) for marks in choice]
                wrong = [at for at, marks in enumerate(choice) if marks in ("Z", "Yb")]
                if wrong:
                    raised(self, CannotCross, {"at": wrong[0], "what": "item"}, crossed, boxes)
                else:
                    self.assertEqual([str(box) for box in crossed(boxes)], list(choice))
                self.assertEqual([str(box) for box in boxes], list(choice))

    def test_a_box_that_stands_at_several_places(self):
        wrong, right = Box("Z"), Box("a")
        raised(self, CannotCross, {"at": 2, "what": "item"}, crossed, [right, right, wrong, right, wrong])

    def test_each_bound_mark(self):
        for mark in "ABCDEFGHIJKLMNOPQRSTUVWXYZ":
            raised(self, CannotCross, {"at": 1, "what": "item"}, crossed, [Box("abz"), Box(mark + "az")])

    def test_what_was_passed(self):
        for what in ["item", "error", "answer", "back", "begin", "", "g", "any words at all"]:
            raised(self, CannotCross, {"at": 0, "what": what}, crossed, [Box("Z")], what)
            raised(self, CannotCross, {"at": 1, "what": what}, crossed, what=what, boxes=[Box(), Box("Za")])
            self.assertEqual([str(box) for box in crossed([Box("a")], what)], ["a"])

    def test_nothing_is_changed(self):
        first, wrong = Box("a"), Box("Z")
        boxes = [first, wrong, first]
        raised(self, CannotCross, {"at": 1, "what": "answer"}, crossed, boxes, "answer")
        self.assertTrue(boxes[0] is first and boxes[1] is wrong and boxes[2] is first and len(boxes) == 3)
        self.assertEqual((str(first), str(wrong)), ("a", "Z"))

    def test_a_box_crosses_when_its_bound_marks_are_gone(self):
        box = Box("Za")
        raised(self, CannotCross, {"at": 0, "what": "item"}, crossed, [box])
        box -= Box("Z")
        self.assertEqual(str(crossed([box])[0]), "a")
        box |= Box("Y")
        raised(self, CannotCross, {"at": 0, "what": "item"}, crossed, [box])


class LongRuns(unittest.TestCase):

    def test_lists_by_chance(self):
        chance = random.Random(5)
        kept = [Box() for _ in range(6)]
        for _ in range(2000):
            chance.choice(kept).become(chance.choice(["", "a", "b", "ab", "a", "Z", "Zb"]))
            boxes = [chance.choice(kept) for _ in range(chance.randrange(7))]
            contents = [str(box) for box in boxes]
            wrong = [at for at, marks in enumerate(contents) if "Z" in marks]
            if wrong:
                raised(self, CannotCross, {"at": wrong[0], "what": "back"}, crossed, boxes, "back")
            else:
                copies = crossed(boxes)
                self.assertEqual([str(box) for box in copies], contents)
                self.assertEqual(same_places(copies), same_places(boxes))
                self.assertFalse([box for box in copies for other in kept if box is other])


if __name__ == "__main__":
    unittest.main()
