"""What several tests need: values of every kind, and comparing by kind, too."""

from workerworlds.boxes import Box
from workerworlds.errors import BadProgram, BadSetting, CannotCross, TooMany
from workerworlds.worlds import World


def nested(depth, inside):
    """A value in so many lists and tuples, one in the other."""
    for level in range(depth):
        inside = [inside] if level % 2 else (inside,)
    return inside


def plain_values():
    """Values of every kind that are no strings."""
    return [
        0, 1, -1, 13, 97, 10 ** 29, -(10 ** 29), True, False, None,
        [], (), [[]], ((),), [()], ["a"], ("a",), ["a", "b"], ("a", "b"), [1, True, None],
        ("a", ["b"]), (["g"], "a"), (("g",), "a"), ((("g",), "a"),), [(("g",), "a")],
        nested(8, "a"), nested(7, []), list(range(599)), tuple(["a"] * 599),
    ]


def own_values():
    """Objects and answers of the package, and values that are put together of them."""
    box = Box("ab")
    world = World.of(g="ab", h="")
    return [
        Box(), box, world, World(), world.rows(), world.names(), [box], (box,), ("g", box), [world, box],
        (world.rows(), world.names()), list(world.rows()),
    ]


def no_strings():
    """Any values that are no strings."""
    return plain_values() + own_values()


def same_value(one, other):
    """Whether both values are equal and of the same kinds throughout."""
    if one.__class__ is not other.__class__:
        return False
    if isinstance(one, (list, tuple)):
        return len(one) == len(other) and all(same_value(left, right) for left, right in zip(one, other))
    return one == other


def contents_of(marks):
    """Marks that are given in a set, as contents."""
    return "".join(sorted(marks))


def all_contents(marks):
    """All contents made of these marks, which ascend."""
    found = [""]
    for mark in marks:
        found += [contents + mark for contents in found]
    return found


def raised(test, error, fields, call, *passed, **named):
    """Asserts that the call raises this very error with these fields, by kind, too."""
    with test.assertRaises(error) as caught:
        call(*passed, **named)
    test.assertIs(caught.exception.__class__, error)
    for field, value in fields.items():
        found = getattr(caught.exception, field)
        test.assertTrue(same_value(found, value), (field, found, value))


def bad_program(test, part, at, call, *passed, **named):
    """Asserts that the call raises BadProgram(part, at)."""
    raised(test, BadProgram, {"part": part, "at": at}, call, *passed, **named)


def too_many(test, what, call, *passed, **named):
    """Asserts that the call raises TooMany(what)."""
    raised(test, TooMany, {"what": what}, call, *passed, **named)


def bad_setting(test, what, call, *passed, **named):
    """Asserts that the call raises BadSetting(what)."""
    raised(test, BadSetting, {"what": what}, call, *passed, **named)


def cannot_cross(test, at, what, call, *passed, **named):
    """Asserts that the call raises CannotCross(at, what)."""
    raised(test, CannotCross, {"at": at, "what": what}, call, *passed, **named)


def any_values():
    """Values of every kind, strings too."""
    return no_strings() + ["", "a", "g", "here", "copied", "anew", "all", "answers", "name", "a" * 3000]


def no_integers():
    """Values of every kind that are no integers, truth values among them."""
    return [thing for thing in any_values() if thing.__class__ is not int]
