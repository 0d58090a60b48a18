"""Settings and items that are wrong, or right, for PROGRAM: what the tests of several calls need."""

import itertools

from helping import any_values, nested, no_integers
from workerworlds.pools import Pool
from workerworlds.programs import Program

PROGRAM = Program("Zab", ["g = {a}", "h = g", "k = {Z}"], ["x = {b}"], ["out = g"])

# Values that are no integers, and integers that are neither numbers of workers nor sizes of chunks.
WRONG_NUMBERS = no_integers() + ["1", 0, -1, 10, 11, -(10 ** 29), 10 ** 29, [1], (2,)]

# Values that are no lists or tuples of different globals of PROGRAM.
WRONG_NAMES = [
    None, True, False, 0, 1, "", "g", "h", "gh", {}, {"g": True}, ["x"], ("x",), ["g", "x"], ["g", "g"],
    ("h", "g", "h"),
    ["z"], ["G"], [""], ["item"], ["out"], [None], [True], [0], [["g"]], (("g",),), ["g", ["h"]], ["g", None], ["gh"],
    ("g", "h", "k", "g"), [Pool], [PROGRAM], PROGRAM, ["g "], [" g"], ["g"] * 600,
]

RIGHT_NAMES = [
    list(names) for many in range(4) for names in itertools.permutations(["g", "h", "k"], many)]

# Values that are no items of PROGRAM.
WRONG_ITEMS = [
    ["box", "a"], ("box",), ("box", "a", "a"), ("box", "ba"), ("box", "aa"), ("box", "c"), ("box", "aZ"), ("box", "Y"),
    ("box", "x"), ("box", None), ("box", 0), ("box", ["a"]), ("box", ("a",)), ("box", " "), ("Box", "a"), ("", "a"),
    ("name", "y"), ("name", "item"), ("name", "out"), ("name", ""), ("name", "a"), ("name", None), ("name", True),
    ("name", ["x"]), ("name", ("x",)), ("name", "x "), ("name", "sent x"), ("name",), ("name", "x", "x"), ["name", "x"],
    ("names", "x"), ("Name", "g"), ("", "x"), (None, "x"), (True, "g"), (0, "x"), (("name",), "x"), (["name"], "g"),
    (("box", "a"),), (None, "a"), (True, "a"), (1, "a"), (["box"], "a"), ("a", "box"), ("x", "name"), {"box": "a"},
    ("box", "ab" * 1500), ("box", nested(8, "a")), (nested(8, "box"), "a"),
]


def wrong_settings():
    """Pairs of the name of a setting of Walk and a value that is wrong for it, in the order of the names."""
    for thing in any_values() + ["here", "Copied", "copied ", "", ["copied"], ("anew",), "all"]:
        if thing != "copied" and thing != "anew":
            yield "way", thing
    for thing in WRONG_NUMBERS:
        yield "workers", thing
    for thing in WRONG_NUMBERS:
        if thing is not None:
            yield "chunk", thing
    for what in ("begin", "back"):
        for thing in WRONG_NAMES:
            yield what, thing
    for thing in any_values():
        if thing is not True and thing is not False:
            yield "renew", thing
    for thing in any_values() + ["here", "answer", "All", "all ", "", ["all"], ("answers",)]:
        if thing != "all" and thing != "answers":
            yield "seen", thing
