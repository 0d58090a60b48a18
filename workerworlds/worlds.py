"""Worlds: names that are bound to boxes."""

from workerworlds.boxes import Box, are_contents
from workerworlds.errors import BadBox, BadName, BadWorld, NoName

NAME_CHARACTERS = "abcdefghijklmnopqrstuvwxyz "
LONGEST_NAME = 13


def is_name(thing):
    """Whether any value is a name."""
    if not isinstance(thing, str) or not 1 <= len(thing) <= LONGEST_NAME:
        return False
    return all([character in NAME_CHARACTERS for character in thing])


def are_names(thing):
    """Whether any value is a tuple of at least one name, different ones ascending."""
    if not isinstance(thing, tuple) or len(thing) == 0:
        return False
    if not all([is_name(name) for name in thing]):
        return False
    return all([one < other for one, other in zip(thing, thing[1:])])


def is_entry(thing):
    """Whether any value is a pair of names and contents, as the rows of a world have it."""
    if not isinstance(thing, tuple) or len(thing) != 2:
        return False
    return are_names(thing[0]) and are_contents(thing[1])


def shown(entry):
    """One entry of the rows as text, such as g=h:ab."""
    names, contents = entry
    signs = "=".join(names)
    return f"{signs}:{contents}"


class World:
    """The memory of one process: names bound to boxes, which names may share."""

    def __init__(self):
        self.boxes = {}

    def __str__(self):
        return " ".join([shown(entry) for entry in self.rows()])

    def __repr__(self):
        return f"World({str(self)})"

    def __len__(self):
        return len(self.boxes)

    def __contains__(self, thing):
        # Not every value can be looked up in a dict, so the kind is asked first.
        return isinstance(thing, str) and thing in self.boxes

    # Otherwise Python would iterate a world by asking for the names 0, 1, ..
    def __iter__(self):
        raise TypeError("a world is not iterated over: take names()")

    def __getitem__(self, name):
        if name not in self:
            raise NoName(name)
        return self.boxes[name]

    def __setitem__(self, name, box):
        if not is_name(name):
            raise BadName(name)
        if not isinstance(box, Box):
            raise BadBox(box)
        self.boxes[name] = box

    def names(self):
        """The bound names, ascending."""
        return sorted(self.boxes)

    def unbind(self, name):
        """Takes the name away; its box stays as it is."""
        if name not in self:
            raise NoName(name)
        del self.boxes[name]

    def same(self, one, other):
        """Whether both names share a box."""
        return self[one] == self[other]

    def copied(self, names=None):
        """A new world with copies of the boxes of all names, or of these; names that share go on sharing."""
        wanted = self.names() if names is None else names
        copies = {}
        world = World()
        for name in wanted:
            box = self[name]
            if box not in copies:
                copies[box] = box.copied()
            world[name] = copies[box]
        return world

    def rows(self):
        """For each box its names and its contents, all ascending."""
        found = {}
        # Each name has one box, so the first names put the entries in order, too.
        for name in self.names():
            found.setdefault(self.boxes[name], []).append(name)
        return tuple([(tuple(found[box]), box.contents) for box in found])

    @staticmethod
    def of(**contents):
        """A new world in which each name has a new box with its contents."""
        world = World()
        for name in contents:
            # The name is refused ahead of its contents.
            if not is_name(name):
                raise BadName(name)
            world[name] = Box(contents[name])
        return world

    @staticmethod
    def read(rows):
        """A new world with these rows."""
        if not isinstance(rows, tuple):
            raise BadWorld(-1)
        world = World()
        before = ()
        for at, entry in enumerate(rows):
            if not is_entry(entry) or entry < before or any([name in world for name in entry[0]]):
                raise BadWorld(at)
            before = entry
            box = Box(entry[1])
            for name in entry[0]:
                world[name] = box
        return world
