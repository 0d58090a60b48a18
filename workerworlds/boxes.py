"""Boxes: marks that can be changed in place."""

from workerworlds.errors import BadBox

MARKS = "ABCDEFGHIJKLMNOPQRSTUVWXYZabcdefghijklmnopqrstuvwxyz"


def either(one, other):
    """The contents with the marks that are in at least one of both."""
    return "".join([mark for mark in MARKS if mark in one or mark in other])


def both(one, other):
    """The contents with the marks that are in both."""
    return "".join([mark for mark in one if mark in other])


def without(one, other):
    """The contents with the marks of the first that are not in the second."""
    return "".join([mark for mark in one if mark not in other])


def exactly_one(one, other):
    """The contents with the marks that are in exactly one of both."""
    return either(without(one, other), without(other, one))


def are_contents(thing):
    """Whether any value is contents: different marks in ascending order."""
    return isinstance(thing, str) and thing == either(thing, "")


def checked(contents):
    """These contents; raises BadBox if they are none."""
    if not are_contents(contents):
        raise BadBox(contents)
    return contents


class Box:
    """Marks that can be changed in place; equal is a box to itself alone."""

    def __init__(self, contents=""):
        self.contents = checked(contents)

    def __str__(self):
        return str(self.contents)

    def __repr__(self):
        return f"Box({self.contents})"

    def __len__(self):
        return len(self.contents)

    def __contains__(self, thing):
        return isinstance(thing, str) and len(thing) == 1 and thing in self.contents

    def __or__(self, other):
        return Box(either(self.contents, other.contents))

    def __and__(self, other):
        return Box(both(self.contents, other.contents))

    def __sub__(self, other):
        return Box(without(self.contents, other.contents))

    def __xor__(self, other):
        return Box(exactly_one(self.contents, other.contents))

    def __ior__(self, other):
        self.contents = either(self.contents, other.contents)
        return self

    def __iand__(self, other):
        self.contents = both(self.contents, other.contents)
        return self

    def __isub__(self, other):
        self.contents = without(self.contents, other.contents)
        return self

    def __ixor__(self, other):
        self.contents = exactly_one(self.contents, other.contents)
        return self

    @property
    def crosses(self):
        """Whether the box has no bound mark."""
        return not any([mark.isupper() for mark in self.contents])

    def become(self, contents):
        """Gives the box these contents, in place."""
        self.contents = checked(contents)

    def within(self, other):
        """Whether all marks of the box are in the other one."""
        return without(self.contents, other.contents) == ""

    def copied(self):
        """A new box with the same contents."""
        return Box(self.contents)

    @staticmethod
    def joined(*boxes):
        """A new box with the marks that are in at least one of the boxes."""
        marks = ""
        for box in boxes:
            marks = either(marks, box.contents)
        return Box(marks)
