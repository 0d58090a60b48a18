"""The same program with other words and other marks, and what it gives then."""

from helping import contents_of
from workerworlds.programs import Program

WORDS = {"a": "tas", "g": "zz", "kept": "b", "h": "while", "x": "aa", "for": "k", "items": "ou",
         "b": "abcdefgh", "y": "m", "abcdefgh": "c"}
MARKS = {"a": "q", "b": "e", "c": "k", "X": "B", "Y": "Q", "Z": "A"}


def other_contents(contents):
    """The contents with the other marks; None stays."""
    return None if contents is None else contents_of(MARKS[mark] for mark in contents)


def other_name(name):
    """The other name, also for the name that a worker has for an own name."""
    return "sent " + WORDS[name[5:]] if name.startswith("sent ") else WORDS.get(name, name)


def other_part(part, is_mark):
    if part.startswith("{"):
        return "{" + other_contents(part[1:-1]) + "}"
    return MARKS[part] if is_mark else WORDS.get(part, part)


def other_row(row):
    """A row of a program in the other words."""
    parts = row.split(" ")
    if row.startswith("if ") or row in ("else", "end", "stop"):
        # The only mark of a row stands ahead of `in`.
        return " ".join(
            part if part in ("if", "not", "in", "is") else other_part(part, parts[at + 1:at + 2] == ["in"])
            for at, part in enumerate(parts))
    return " ".join(other_part(part, False) for part in parts)


def other_program(marks, module, caller, task):
    """The program with the other words and marks."""
    return Program(other_contents(marks), *[[other_row(row) for row in part] for part in (module, caller, task)])


def other_rows(rows):
    """The rows of a world with the other names and marks."""
    found = []
    for names, contents in rows:
        found.append((tuple(sorted(other_name(name) for name in names)), other_contents(contents)))
    return tuple(sorted(found))


def other_item(item):
    kind, told = item
    return kind, other_contents(told) if kind == "box" else WORDS[told]


def other_failure(failure):
    if failure is None or failure[0] == "crossing":
        return failure
    return (*failure[:2], other_contents(failure[2]), other_contents(failure[3]))


def other_outcome(outcome):
    """Answers, failure, world and what was passed."""
    answers, failure, world, passed = outcome
    return (
        tuple(other_contents(text) for text in answers), other_failure(failure), other_rows(world),
        tuple(other_contents(text) for text in passed))


def other_scene(scene):
    mine, before, theirs, turn, size = scene
    return other_rows(mine), other_rows(before), other_rows(theirs), turn, size


def other_scenes(scenes):
    return tuple(sorted(other_scene(scene) for scene in scenes))
