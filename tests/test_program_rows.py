"""Program, its rows: points 9 to 12. Each list of rows is also compared with the expressions in grammar.py."""

import itertools
import random
import unittest

from grammar import RESERVED, fits, plain_row, task_row, wrong_row_of_blocks
from helping import bad_program, no_strings
from workerworlds.programs import Program

MARKS = "Zab"
GLOBALS = ["g", "kept"]
TASK_WORDS = GLOBALS + ["item", "out"]


def module_with(row):
    return Program(MARKS, ["g = {}", "kept = g", row], [], [])


def caller_with(row):
    return Program(MARKS, ["g = {}", "kept = g"], ["x = {}", row], [])


def task_with(*rows):
    return Program(MARKS, ["g = {}", "kept = g"], ["x = {}"], ["out = item", *rows])


# For each part: a program with one more row, the part, the index of the row, and the words that are known there.
PLAIN_PLACES = [(module_with, "module", 2, ["g", "kept"]), (caller_with, "caller", 1, ["g", "kept", "x"])]


class Comparing(unittest.TestCase):

    def accepts_plain(self, row):
        for make, part, at, words in PLAIN_PLACES:
            self.assertTrue(fits(plain_row(words, MARKS, True), row), row)
            self.assertEqual(getattr(make(row), part)[at], row)

    def refuses_plain(self, row):
        for make, part, at, words in PLAIN_PLACES:
            self.assertFalse(fits(plain_row(words, MARKS, True), row), row)
            bad_program(self, part, at, make, row)

    def accepts_in_task(self, row):
        self.assertTrue(fits(task_row(TASK_WORDS, MARKS), row), row)
        behind = ["end"] if row.startswith("if ") else []
        self.assertEqual(task_with(row, *behind).task, ("out = item", row, *behind))

    def refuses_in_task(self, row):
        self.assertFalse(fits(task_row(TASK_WORDS, MARKS), row), row)
        for behind in ([], ["end"], ["else", "end"]):
            bad_program(self, "task", 1, task_with, row, *behind)
            bad_program(self, "task", 2, task_with, "if a in out", row, "end", *behind)


class PlainRows(Comparing):

    def test_each_form(self):
        for row in ["g = g", "g = kept", "g = {}", "g = {ab}", "w = g", "w = {Zab}", "kept = {Zb}",
                    "g = g | kept", "w = g & {a}", "w = {a} - g", "w = {} ^ {Z}", "g = kept - kept",
                    "g |= kept", "g &= {}", "g -= g", "kept ^= {Za}"]:
            self.accepts_plain(row)

    def test_each_form_in_a_task(self):
        for row in ["g = g", "g = item", "item = out", "out = {}", "out = {Zab}", "item = {b}",
                    "g = item | out", "item = item & {a}", "out = {a} - item", "g = {} ^ {Z}",
                    "g |= item", "item &= out", "out -= out", "kept ^= {Za}"]:
            self.accepts_in_task(row)

    def test_each_sign_with_each_kind_of_term(self):
        for sign in "|&-^":
            for one, other in itertools.product(["g", "kept", "{}", "{Za}"], repeat=2):
                self.accepts_plain(f"g = {one} {sign} {other}")
                self.accepts_plain(f"w = {one} {sign} {other}")
                self.accepts_in_task(f"out = {one} {sign} {other}")
            for term in ["g", "kept", "{}", "{Zab}"]:
                self.accepts_plain(f"g {sign}= {term}")
                self.accepts_in_task(f"item {sign}= {term}")

    def test_new_words_stand_on_the_left_of_the_plain_sign_alone(self):
        for row in ["w |= g", "w &= {}", "w -= w", "w ^= {a}"]:
            self.refuses_plain(row)
        self.refuses_in_task("w = {}")
        self.refuses_in_task("w |= {}")

    def test_a_word_is_known_behind_the_row_that_binds_it(self):
        for row in ["w = w", "w = w | g", "w = g | w", "g = w", "g |= w", "g = {} - w"]:
            self.refuses_plain(row)
            self.refuses_in_task(row)
        self.assertEqual(Program("a", ["g = {}", "h = g", "h |= g"], [], []).global_names(), ["g", "h"])
        bad_program(self, "module", 0, Program, "a", ["g = h", "h = {}"], [], [])
        bad_program(self, "module", 0, Program, "a", ["g |= {a}", "g = {}"], [], [])
        bad_program(self, "caller", 0, Program, "a", ["g = {}"], ["g = x", "x = {}"], [])
        bad_program(self, "caller", 1, Program, "a", ["g = {}"], ["g = {}", "x ^= g"], [])

    def test_the_module_does_not_know_the_words_of_the_caller(self):
        bad_program(self, "module", 1, Program, "a", ["g = {}", "g |= x"], ["x = {}"], [])

    def test_words_of_every_length(self):
        for word in ["w", "z", "ab", "items", "outer", "tasks", "fo", "i", "ende", "word", "abcdefgh", "zzzzzzzz",
                     "modules", "calle", "for", "def", "class", "none", "answers", "mark", "sent"]:
            self.accepts_plain(f"{word} = g")
            self.accepts_plain(f"{word} = {{a}} | g")
        for word in ["abcdefghi", "a" * 9, "a" * 3000, "W", "Word", "woRd", "worD", "w1", "1", "w_", "_w", "w.", "",
                     "w-", "{a}", "{}", "=", "|", "\"w\"", "'w'", "sent x"]:
            self.refuses_plain(f"{word} = g")
            self.refuses_plain(f"{word} = {{a}} | g")

    def test_each_character_in_a_word(self):
        for code in range(ord(" "), ord("~") + 1):
            for word in [chr(code), "w" + chr(code), chr(code) + "w", "w" + chr(code) + "w"]:
                if chr(code) != "%" and "a" <= chr(code) <= "z":
                    self.accepts_plain(f"{word} = g")
                elif chr(code) != "%":
                    self.refuses_plain(f"{word} = g")

    def test_reserved_words(self):
        self.assertEqual(len(RESERVED), 17)
        for word in RESERVED:
            self.refuses_plain(f"{word} = g")
            self.refuses_plain(f"{word} = {{}} | {{}}")
            self.refuses_plain(f"g = {word}")
            self.refuses_plain(f"g = g - {word}")
            self.refuses_plain(f"g |= {word}")
            self.refuses_plain(f"{word} |= g")
            if word not in ("item", "out"):
                self.refuses_in_task(f"{word} = g")
                self.refuses_in_task(f"g = {word}")
                self.refuses_in_task(f"g = {word} & g")
                self.refuses_in_task(f"g |= {word}")
                self.refuses_in_task(f"{word} |= g")
                self.refuses_in_task(f"fail {word}")

    def test_words_that_a_task_does_not_see(self):
        for word in ["x", "w", "kep", "keptt", "items", "a", "Z", "ut"]:
            for row in ["{} = g", "g = {}", "g = {} | g", "g = g | {}", "{} |= g", "g |= {}", "fail {}",
                        "fail g from {}",
                        "if a in {}", "if {} is g", "if g is {}", "if {} == g", "if g == {}", "if {} <= g",
                        "if g <= {}", "if not a in {}"]:
                self.refuses_in_task(row.replace("{}", word))

    def test_a_task_without_globals(self):
        Program("a", [], ["x = {}"], ["out = item", "item |= {a}", "if out is item", "end"])
        bad_program(self, "task", 0, Program, "a", [], ["x = {}"], ["out = x"])
        bad_program(self, "task", 0, Program, "a", [], [], ["g = {}"])

    def test_sets(self):
        for inner in ["", "Z", "a", "b", "Za", "Zb", "ab", "Zab"]:
            self.accepts_plain(f"g = {{{inner}}}")
            self.accepts_in_task(f"out = {{{inner}}} ^ {{{inner}}}")
        for inner in ["ba", "aZ", "bZ", "aa", "ZZ", "A", "c", "Y", "abc", "YZ", "1", ",", "a,b", "{a}", "g", "item",
                      "-", "{", "}", "{}"]:
            self.refuses_plain(f"g = {{{inner}}}")
            self.refuses_plain(f"g = g | {{{inner}}}")
            self.refuses_plain(f"g |= {{{inner}}}")
            self.refuses_in_task(f"out = {{{inner}}}")
            self.refuses_in_task(f"out = {{{inner}}} | g")
        for term in ["{", "}", "}{", "{a", "a}", "{a}}", "{{a}", "(a)", "[a]", "ab", "a", "{ }", "{a }", "{ a}",
                     "{a b}"]:
            self.refuses_plain(f"g = {term}")
            self.refuses_in_task(f"out = {term}")

    def test_marks_that_are_others_than_those_of_the_program(self):
        bad_program(self, "module", 0, Program, "a", ["g = {b}"], [], [])
        bad_program(self, "module", 0, Program, "a", ["g = {A}"], [], [])
        bad_program(self, "caller", 0, Program, "Ya", [], ["x = {Za}"], [])
        bad_program(self, "task", 0, Program, "b", [], [], ["if a in out", "end"])
        bad_program(self, "task", 0, Program, "b", [], [], ["fail {a}"])

    def test_parts_that_are_missing_or_doubled(self):
        for row in ["g = kept", "g = kept | {a}", "g |= kept", "g = {} - g"]:
            parts = row.split(" ")
            for at in range(len(parts)):
                fewer = parts[:at] + parts[at + 1:]
                double = parts[:at] + [parts[at]] + parts[at:]
                for other in (fewer, double):
                    self.refuses_plain(" ".join(other))
                    self.refuses_in_task(" ".join(other))

    def test_empty_parts(self):
        for row in ["g = kept", "g = kept | {a}", "g |= kept"]:
            parts = row.split(" ")
            for at in range(len(parts) + 1):
                wider = " ".join(parts[:at] + [""] + parts[at:])
                self.refuses_plain(wider)
                self.refuses_in_task(wider)
                self.refuses_plain(" ".join(parts[:at] + [""] + parts[at + 1:]))
        for row in ["", " ", "  ", "   ", "    ", "     "]:
            self.refuses_plain(row)
            self.refuses_in_task(row)

    def test_parts_without_a_blank_between(self):
        for row in ["g=kept", "g= kept", "g =kept", "g = kept|{a}", "g = kept| {a}", "g = kept |{a}", "g|=kept",
                    "g |=kept", "g|= kept", "g | = kept", "g = {}-g"]:
            self.refuses_plain(row)
            self.refuses_in_task(row)

    def test_wrong_signs(self):
        for sign in ["", "==", "=|", "|", "&", "-", "^", "+=", "*=", "||=", "|==", "<=", ">=", "!=", ":=", "in", "is",
                     "^-="]:
            self.refuses_plain(f"g {sign} kept")
            self.refuses_in_task(f"g {sign} kept")
        for sign in ["", "=", "==", "|=", "&=", "+", "*", "/", "||", "<=", "in", "is", "or", "|&", "^ ^"]:
            self.refuses_plain(f"g = kept {sign} g")
            self.refuses_in_task(f"g = kept {sign} g")
        for sign in ["|", "|=", "==", "<=", "-"]:
            self.refuses_plain(f"g {sign} kept | g")
            self.refuses_in_task(f"g {sign} kept | g")

    def test_a_set_on_the_left(self):
        for row in ["{} = g", "{a} |= g", "{a} = {a}", "{} = g | g"]:
            self.refuses_plain(row)
            self.refuses_in_task(row)

    def test_rows_of_a_task_are_no_plain_rows(self):
        for row in ["stop", "else", "end", "fail g", "fail {a} from g", "if a in g", "if not a in g", "if g is kept",
                    "if g == kept", "if g <= {}", "g = item", "out = {}", "item |= g", "out -= out", "caller", "task",
                    "module", "marks ab"]:
            self.refuses_plain(row)

    def test_values_that_are_no_strings(self):
        for thing in no_strings() + [["g", "=", "{}"], ("g", "=", "{}"), ["g = {}"]]:
            self.refuses_plain(thing)
            bad_program(self, "task", 1, task_with, thing)
            bad_program(self, "task", 0, Program, "a", [], [], [thing, "else"])


class TaskRows(Comparing):

    def test_conditions(self):
        terms = TASK_WORDS + ["{}", "{Zab}", "{b}"]
        for sign in ["if", "if not"]:
            for mark, term in itertools.product(MARKS, terms):
                self.accepts_in_task(f"{sign} {mark} in {term}")
            for one, other in itertools.product(TASK_WORDS, repeat=2):
                self.accepts_in_task(f"{sign} {one} is {other}")
            for one, other in itertools.product(terms, repeat=2):
                self.accepts_in_task(f"{sign} {one} == {other}")
                self.accepts_in_task(f"{sign} {one} <= {other}")

    def test_conditions_that_are_none(self):
        for tail in ["", " ", "a", "a in", "in g", "a in g g", "a a in g", "a not in g", "g in g", "item in g",
                     "{a} in g",
                     "ab in g", "Za in g", " in g", "A in g", "c in g", "z in g", "g is", "is g", "{} is g", "g is {}",
                     "{} is {}", "g is not kept", "g is g is g", "g == ", "== g", "g == g == g", "a == g", "g <= a",
                     "g < g", "g >= g", "g > g", "g != g", "g = g", "g | g", "not", "not g", "g", "{}",
                     "a in {c}", "{c} == g", "g <= {ba}", "a  in g", "a in  g", "g  is g", "a in g ", "a in g end",
                     "else", "a in x", "g is x", "a In g", "g IS g"]:
            self.refuses_in_task(f"if {tail}")
            self.refuses_in_task(f"if not {tail}")
        for row in ["if", "if not", "a in g", "not a in g", "If a in g", "IF a in g", "if  a in g", " if a in g",
                    "ifa in g", "elif a in g", "while a in g", "if not  a in g", "if not not a in g"]:
            self.refuses_in_task(row)

    def test_a_mark_is_no_word_and_a_word_no_mark(self):
        rows = ["if a in a", "if a is a", "if a == a", "fail a", "a = a", "end", "end", "end"]
        program = Program("ab", ["a = {b}", "b = a"], [], rows)
        self.assertEqual(program.task, tuple(rows))
        for row in ["if c in a", "if b is {b}", "if a in c"]:
            bad_program(self, "task", 0, Program, "ab", ["a = {b}", "b = a"], [], [row, "end"])
        bad_program(self, "task", 0, Program, "a", ["b = {}"], [], ["if b in b", "end"])

    def test_failures(self):
        terms = TASK_WORDS + ["{}", "{Zab}"]
        for term in terms:
            self.accepts_in_task(f"fail {term}")
        for one, other in itertools.product(terms, repeat=2):
            self.accepts_in_task(f"fail {one} from {other}")
        for row in ["fail", "fail ", "fail  g", "fail g ", " fail g", "fail from", "fail from g", "fail g from",
                    "fail g from ", "fail g  from g", "fail g from  g", "fail g g", "fail g from g g",
                    "fail g g from g",
                    "fail g from g from g", "fail g From g", "fail g | g", "fail {c}", "fail g from {c}", "fail {ba}",
                    "fail a", "fail x", "fail g from x", "fail w", "Fail g", "failg", "fail fail", "fail stop",
                    "raise g", "fail g, g", "fail g in g"]:
            self.refuses_in_task(row)

    def test_stop(self):
        self.accepts_in_task("stop")
        for row in ["stop ", " stop", "stop stop", "stop g", "stop out", "Stop", "STOP", "stops", "stop end", "return"]:
            self.refuses_in_task(row)

    def test_else_and_end_stand_alone(self):
        for row in ["else ", " else", "else if", "else a in g", "Else", "else:", "end ", " end", "end if", "End",
                    "end end",
                    "elsee", "ends", "en"]:
            bad_program(self, "task", 1, task_with, row)
            bad_program(self, "task", 2, task_with, "if a in g", row, "end")

    def test_else_and_end_without_an_if(self):
        bad_program(self, "task", 0, Program, "a", [], [], ["else"])
        bad_program(self, "task", 0, Program, "a", [], [], ["end"])
        bad_program(self, "task", 2, Program, "a", [], [], ["if a in out", "end", "end"])
        bad_program(self, "task", 2, Program, "a", [], [], ["if a in out", "end", "else"])
        bad_program(self, "task", 3, Program, "a", [], [], ["if a in out", "else", "end", "end", "end"])

    def test_a_second_else(self):
        bad_program(self, "task", 2, Program, "a", [], [], ["if a in out", "else", "else", "end"])
        bad_program(self, "task", 5, Program, "a", [], [], [
            "if a in out", "else", "if a in item", "else", "end", "else", "end"])

    def test_an_end_that_is_missing(self):
        bad_program(self, "task", 1, Program, "a", [], [], ["if a in out"])
        bad_program(self, "task", 2, Program, "a", [], [], ["if a in out", "else"])
        bad_program(self, "task", 3, Program, "a", [], [], ["if a in out", "if a in out", "end"])
        bad_program(self, "task", 16, Program, "a", [], [], ["if a in out"] * 16)
        bad_program(self, "task", 16, Program, "a", [], [], ["stop"] * 15 + ["if not a in {}"])

    def test_blocks_in_blocks(self):
        deep = ["if a in out"] * 8 + ["end"] * 8
        self.assertEqual(Program("a", [], [], deep).task, tuple(deep))
        wide = ["if a in out", "else", "end"] * 5
        self.assertEqual(Program("a", [], [], wide).task, tuple(wide))

    def test_all_ways_to_put_blocks_together(self):
        for many in range(7):
            for rows in itertools.product(["if a in item", "else", "end"], repeat=many):
                wrong = wrong_row_of_blocks(rows)
                if wrong is None:
                    self.assertEqual(Program("a", [], [], list(rows)).task, rows)
                else:
                    bad_program(self, "task", wrong, Program, "a", [], [], list(rows))


class DrawnRows(unittest.TestCase):

    PARTS = ["g", "kept", "item", "out", "x", "w", "a", "Z", "{}", "{a}", "{Zab}", "{ba}", "{c}", "=", "|=", "-=", "|",
             "^", "&", "-", "==", "<=", "in", "is", "if", "not", "fail", "from", "stop", "else", "end", "", "G"]

    def check_plain(self, row):
        for make, part, at, words in PLAIN_PLACES:
            if fits(plain_row(words, MARKS, True), row):
                self.assertEqual(getattr(make(row), part)[at], row)
            else:
                bad_program(self, part, at, make, row)

    def check_task(self, row):
        right = fits(task_row(TASK_WORDS, MARKS), row) and row not in ("else", "end")
        if right:
            task_with(row, "end") if row.startswith("if ") else task_with(row)
        else:
            bad_program(self, "task", 1, task_with, row)

    def test_parts_by_chance(self):
        chance = random.Random(1)
        for _ in range(6000):
            row = " ".join(chance.choice(self.PARTS) for _ in range(chance.choice([1, 2, 3, 3, 3, 4, 4, 5, 5, 6])))
            self.check_plain(row)
            self.check_task(row)

    def test_right_rows_that_are_bent(self):
        chance = random.Random(2)
        right = ["g = kept", "w = {a}", "g = kept | {a}", "w = {Zb} - g", "g |= kept", "kept ^= {}", "out = item",
                 "item = g & out", "if a in item", "if not g is out", "if {a} == g", "if not {} <= item", "fail g",
                 "fail {a} from out", "stop", "else", "end"]
        for _ in range(6000):
            parts = chance.choice(right).split(" ")
            for _ in range(chance.choice([1, 1, 2])):
                at = chance.randrange(len(parts))
                parts[at:at + chance.randrange(2)] = [chance.choice(self.PARTS) for _ in range(chance.randrange(2))]
                parts = parts or [""]
            self.check_plain(" ".join(parts))
            self.check_task(" ".join(parts))

    def test_right_rows_with_other_characters(self):
        chance = random.Random(3)
        right = ["g = kept", "w = {a}", "g = g | {a}", "g |= g", "if a in item", "if not g is out", "fail g from {Z}",
                 "stop", "else", "end", "if g <= {b}"]
        for _ in range(6000):
            row = chance.choice(right)
            at = chance.randrange(len(row) + 1)
            row = row[:at] + chance.choice(["", " ", "g", "Z", "a", "=", "{", "}",
                                            "|"]) + row[at + chance.randrange(2):]
            self.check_plain(row)
            self.check_task(row)

    def test_tasks_by_chance(self):
        chance = random.Random(4)
        form = task_row(TASK_WORDS, MARKS)
        rows_to_choose = ["if a in item", "if not out is g", "else", "end", "end", "stop", "out = g", "fail g"]
        for _ in range(4000):
            rows = [chance.choice(rows_to_choose) for _ in range(chance.randrange(17))]
            if rows and chance.randrange(3) == 0:
                rows[chance.randrange(len(rows))] = chance.choice(["out = x", "if a", "", None, 1, "fail"])
            wrong = [at for at, row in enumerate(rows) if not fits(form, row)] + [len(rows)]
            bent = wrong_row_of_blocks(rows[:wrong[0]])
            first = bent if bent is not None and bent < wrong[0] else wrong[0]
            if first == len(rows) and bent is None:
                self.assertEqual(Program(MARKS, ["g = {}", "kept = g"], [], rows).task, tuple(rows))
            else:
                bad_program(self, "task", first, Program, MARKS, ["g = {}", "kept = g"], [], rows)


if __name__ == "__main__":
    unittest.main()
