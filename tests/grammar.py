"""Which rows are right, told by regular expressions: beside the package, to compare it with."""

import re

RESERVED = "answer caller else end fail from given if in is item marks module not out stop task".split()
NEW_WORD = r"(?!(?:" + "|".join(RESERVED) + r")(?: |$))[a-z]{1,8}"


def set_of(marks):
    """An expression for the sets of these marks, which ascend."""
    return r"\{" + "".join(mark + "?" for mark in marks) + r"\}"


def word_of(words):
    """An expression for one of these words."""
    return "(?:" + "|".join(words) + ")" if words else "(?!)"


def term_of(words, marks):
    """An expression for a term."""
    return "(?:" + word_of(words) + "|" + set_of(marks) + ")"


def plain_row(words, marks, fresh):
    """An expression for the plain rows over these words; if fresh, any word may stand on the left of `=`."""
    left = NEW_WORD if fresh else word_of(words)
    term = term_of(words, marks)
    return f"{left} = {term}(?: [|&^-] {term})?|{word_of(words)} [|&^-]= {term}"


def task_row(words, marks):
    """An expression for the task rows over these words."""
    word, term = word_of(words), term_of(words, marks)
    condition = f"(?:[{marks}] in {term}|{word} is {word}|{term} (?:==|<=) {term})"
    return f"{plain_row(words, marks, False)}|if (?:not )?{condition}|else|end|stop|fail {term}(?: from {term})?"


def fits(form, row):
    """Whether any value is a row of this form."""
    return isinstance(row, str) and re.fullmatch(form, row) is not None


def wrong_row_of_blocks(rows):
    """The index of the first row at which `if`, `else` and `end` do not fit, their number if an `end` is missing."""
    signs = ""
    for at, row in enumerate(rows):
        signs += {"if": "i", "else": "e", "end": "n"}.get(row.split(" ")[0], "")
        while "in" in signs or "ien" in signs:
            signs = signs.replace("ien", "").replace("in", "")
        if not re.fullmatch("(ie?)*", signs):
            return at
    return len(rows) if signs else None
