"""Rows: the forms that the rows of a program have, and what a plain row does in a world."""

from workerworlds.boxes import Box, are_contents

LETTERS = "abcdefghijklmnopqrstuvwxyz"
LONGEST_WORD = 8
RESERVED = (
    "answer", "caller", "else", "end", "fail", "from", "given", "if", "in", "is", "item", "marks", "module", "not",
    "out", "stop", "task",
)
SIGNS = ("|", "&", "-", "^")
CHANGES = ("|=", "&=", "-=", "^=")


def is_word(part):
    """Whether a part of a row is a word that a program may choose."""
    if not 1 <= len(part) <= LONGEST_WORD or part in RESERVED:
        return False
    return all([letter in LETTERS for letter in part])


def is_mark(part, marks):
    """Whether a part of a row is one of these marks."""
    return len(part) == 1 and part in marks


def is_set(part, marks):
    """Whether a part of a row is a set of these marks."""
    if not part.startswith("{") or not part.endswith("}"):
        return False
    return are_contents(inside(part)) and all([mark in marks for mark in inside(part)])


def inside(part):
    """What stands in the braces of a set."""
    return part[1:-1]


def are_terms(parts, words, marks):
    """Whether each of the parts is one of these words or a set of these marks."""
    return all([part in words or is_set(part, marks) for part in parts])


def first_part(row):
    """The first part of a row: the word on the left, or the word that tells its form."""
    return row.split(" ")[0]


def plain_form(row):
    """The word on the left, the sign and the list of terms of a plain row, None for a row of no such form."""
    parts = row.split(" ")
    if len(parts) == 3 and (parts[1] == "=" or parts[1] in CHANGES):
        return parts[0], parts[1], [parts[2]]
    if len(parts) == 5 and parts[1] == "=" and parts[3] in SIGNS:
        return parts[0], parts[3], [parts[2], parts[4]]
    return None


def is_plain(row, words, marks, fresh):
    """Whether any value is a plain row over these words and marks; if fresh, it may bind any other word."""
    form = plain_form(row) if isinstance(row, str) else None
    if form is None:
        return False
    left, sign, terms = form
    may_bind = fresh and sign not in CHANGES and is_word(left)
    return (left in words or may_bind) and are_terms(terms, words, marks)


def is_condition(parts, words, marks):
    """Whether these parts are what stands behind `if` or `if not`."""
    if len(parts) != 3:
        return False
    one, sign, other = parts
    if sign == "in":
        return is_mark(one, marks) and are_terms([other], words, marks)
    if sign == "is":
        return one in words and other in words
    return sign in ("==", "<=") and are_terms([one, other], words, marks)


def is_failing(parts, words, marks):
    """Whether these parts are what stands behind `fail`."""
    if len(parts) == 3 and parts[1] == "from":
        return are_terms([parts[0], parts[2]], words, marks)
    return len(parts) == 1 and are_terms(parts, words, marks)


def is_task_row(row, words, marks):
    """Whether any value is a task row over these words and marks, wherever it stands."""
    if not isinstance(row, str):
        return False
    if row in ("else", "end", "stop"):
        return True
    parts = row.split(" ")
    if parts[0] == "if":
        return is_condition(parts[2:] if parts[1:2] == ["not"] else parts[1:], words, marks)
    if parts[0] == "fail":
        return is_failing(parts[1:], words, marks)
    return is_plain(row, words, marks, False)


def valued(term, world):
    """The box of a word, or a new box with the contents of a set."""
    if term.startswith("{"):
        return Box(inside(term))
    return world[term]


def combined(one, sign, other):
    """A new box of both, by the sign."""
    if sign == "|":
        return one | other
    if sign == "&":
        return one & other
    if sign == "-":
        return one - other
    return one ^ other


def change(box, sign, other):
    """Changes the box in place, by the sign."""
    if sign == "|=":
        box |= other
    elif sign == "&=":
        box &= other
    elif sign == "-=":
        box -= other
    else:
        box ^= other


def run_plain(row, world):
    """Runs a plain row in a world that binds its words."""
    left, sign, terms = plain_form(row)
    boxes = [valued(term, world) for term in terms]
    if sign in CHANGES:
        change(world[left], sign, boxes[0])
    elif sign == "=":
        world[left] = boxes[0]
    else:
        world[left] = combined(boxes[0], sign, boxes[1])
