"""Programs by chance, and what they do when Python itself runs them, with its own sets in the places of boxes.

A row such as `g = x | {b}` is nearly a row of Python. So a program is translated: each word gets a `w_` in front, since
words such as `for` mean something in Python. Two names share a set in the model if they share a box in the world.
"""

from helping import contents_of

SIGNS = ["|", "&", "-", "^"]
WORDS = ["a", "g", "kept", "h", "x", "for", "items", "b", "y", "abcdefgh"]
ALL_MARKS = ["a", "ab", "Z", "Za", "YZ", "Zab", "YZa", "XYZ", "bc", "Zbc"]


class Fails(Exception):
    """What a task of the model ends with when it fails."""

    def __init__(self, told, cause):
        super().__init__(told, cause)
        self.told = told
        self.cause = cause


def term(part):
    """A term in Python's words."""
    return f"set({part[1:-1]!r})" if part.startswith("{") else f"w_{part}"


def plain(row):
    """A plain row in Python's words."""
    left, sign, *parts = row.split(" ")
    if len(parts) == 3:
        return f"w_{left} = {term(parts[0])} {parts[1]} {term(parts[2])}"
    return f"w_{left} {sign} {term(parts[0])}"


def condition(parts):
    """What stands behind `if`, in Python's words."""
    if parts[0] == "not":
        return f"not ({condition(parts[1:])})"
    left = repr(parts[0]) if parts[1] == "in" else term(parts[0])
    return f"{left} {parts[1]} {term(parts[2])}"


def task_lines(rows):
    """The task rows in Python's words."""
    deep = 1
    for row in rows:
        parts = row.split(" ")
        if parts[0] == "if":
            yield "    " * deep + f"if {condition(parts[1:])}:"
            deep += 1
            yield "    " * deep + "pass"
        elif row == "else":
            yield "    " * (deep - 1) + "else:"
            yield "    " * deep + "pass"
        elif row == "end":
            deep -= 1
        elif row == "stop":
            yield "    " * deep + "return w_out"
        elif parts[0] == "fail":
            told, cause = term(parts[1]), term(parts[3]) if len(parts) == 4 else "None"
            yield "    " * deep + f"raise Fails(text({told}), text({cause}))"
        else:
            yield "    " * deep + plain(row)


def text(marks):
    return None if marks is None else contents_of(marks)


def model_world(rows, world=None):
    """What plain rows make of a model of a world: a dict of names and sets."""
    space = {f"w_{name}": marks for name, marks in (world or {}).items()}
    exec("\n".join(plain(row) for row in rows), {}, space)
    return {name[2:]: marks for name, marks in space.items()}


def model_task(program):
    """A function of a model of a world and a set: runs the task as Python does, and returns the answer, a set."""
    shared = program.global_names()
    lines = ["def task(w_item):"]
    if shared:
        lines.append("    global " + ", ".join(f"w_{name}" for name in shared))
    lines += ["    w_out = set()", *task_lines(program.task), "    return w_out"]
    code = compile("\n".join(lines), "task", "exec")

    def run(world, marks):
        space = {"Fails": Fails, "text": text, "set": set}
        for name in shared:
            space[f"w_{name}"] = world[name]
        exec(code, space)
        try:
            return space["task"](marks)
        finally:
            for name in shared:
                world[name] = space[f"w_{name}"]

    return run


def model_rows(world):
    """The rows of a model of a world."""
    groups = {}
    for name in sorted(world):
        groups.setdefault(id(world[name]), []).append(name)
    return tuple(sorted((tuple(names), contents_of(world[names[0]])) for names in groups.values()))


def drawn_set(chance, marks):
    return "{" + "".join(mark for mark in marks if chance.randrange(2)) + "}"


def drawn_term(chance, marks, words):
    return chance.choice(words) if words and chance.randrange(3) else drawn_set(chance, marks)


def drawn_plain(chance, marks, words, lefts):
    """A plain row over these words, which binds one of lefts or changes one of words."""
    kind = chance.randrange(4)
    if words and kind == 0:
        return f"{chance.choice(words)} {chance.choice(SIGNS)}= {drawn_term(chance, marks, words)}"
    one, other = drawn_term(chance, marks, words), drawn_term(chance, marks, words)
    if kind == 1:
        return f"{chance.choice(lefts)} = {one} {chance.choice(SIGNS)} {other}"
    return f"{chance.choice(lefts)} = {one}"


def drawn_part(chance, marks, known, lefts):
    """Some plain rows of a module or a caller."""
    words, rows = list(known), []
    for _ in range(chance.randrange(7)):
        row = drawn_plain(chance, marks, words, lefts)
        rows.append(row)
        left = row.split(" ")[0]
        words += [] if left in words else [left]
    return rows


def drawn_condition(chance, marks, words):
    one, other = drawn_term(chance, marks, words), drawn_term(chance, marks, words)
    return chance.choice([
        f"{chance.choice(marks)} in {one}", f"{chance.choice(words)} is {chance.choice(words)}", f"{one} == {other}",
        f"{one} <= {other}"])


def drawn_task(chance, marks, words, many):
    """At most so many task rows, with blocks in blocks."""
    rows = []
    while len(rows) < many:
        left = many - len(rows)
        kind = chance.randrange(12)
        if kind < 3 and left >= 2:
            first = drawn_task(chance, marks, words, chance.randrange(left - 1))
            rows.append(f"if {chance.choice(['', 'not '])}{drawn_condition(chance, marks, words)}")
            rows += first
            if len(rows) + 2 <= many and chance.randrange(2):
                rows.append("else")
                rows += drawn_task(chance, marks, words, chance.randrange(many - len(rows)))
            rows.append("end")
        elif kind == 3 and chance.randrange(3) == 0:
            rows.append("stop")
        elif kind == 4 and chance.randrange(2) == 0:
            told = drawn_term(chance, marks, words)
            rows.append(chance.choice([f"fail {told}", f"fail {told} from {drawn_term(chance, marks, words)}"]))
        else:
            rows.append(drawn_plain(chance, marks, words, words))
    return rows


def drawn_parts(chance):
    """Marks and rows of a right program."""
    marks = chance.choice(ALL_MARKS)
    words = chance.sample(WORDS, 5)
    shared = chance.randrange(4)
    module = drawn_part(chance, marks, [], words[:shared]) if shared else []
    known = sorted({row.split(" ")[0] for row in module})
    own = chance.randrange(min(2, 4 - len(known)) + 1)
    lefts = known + words[3:3 + own]
    caller = drawn_part(chance, marks, known, lefts) if lefts else []
    task = drawn_task(chance, marks, known + ["item", "out"], chance.randrange(17))
    return marks, module, caller, task


def drawn_letters(chance, program, many):
    """A list of so many items, of any marks and any names of the caller."""
    names = program.names()
    items = []
    for _ in range(many):
        if names and chance.randrange(2):
            items.append(("name", chance.choice(names)))
        else:
            items.append(("box", "".join(mark for mark in program.marks if chance.randrange(3) == 0)))
    return items


def drawn_names(chance, program):
    """Some globals, in any order."""
    names = program.global_names()
    return chance.sample(names, chance.randrange(len(names) + 1))


def drawn_cut(chance, count):
    """A cut of so many items."""
    sizes = []
    while sum(sizes) < count:
        sizes.append(chance.randrange(1, count - sum(sizes) + 1))
    return tuple(sizes)


def drawn_dealing(chance, chunks, workers):
    """A dealing of so many chunks."""
    return tuple(chance.randrange(workers) for _ in range(chunks))


def talking_row(chance, marks, words):
    """A row of a task that keeps something of its item, or tells something of what it has kept."""
    one, other = chance.choice(words), chance.choice(words)
    mark = "{" + chance.choice(marks) + "}"
    kept = [f"{one} |= item", f"{one} = item", f"{one} = item | {{}}", f"{one} = {other} | {{}}", f"{one} ^= {mark}",
            f"{one} = {mark}", f"{one} = {{}}", f"{one} |= {other}", f"{one} &= item", f"{one} = {other} & item"]
    told = [f"out = {one}", f"out = {one} & {mark}", f"out |= {mark}", f"out = {one} | {{}}"]
    rare = [f"{one} = {other}", f"item |= {mark}", "fail {}", f"fail {one} from {mark}", "stop", "out = item"]
    return chance.choice(chance.choice([kept, kept, kept, told, told, rare]))


def talking_parts(chance):
    """Marks and rows of a small program that keeps and tells much; its pools are parted by longer lists, too."""
    marks = chance.choice(["a", "ab", "ab", "Za", "Zab"])
    plain = [mark for mark in marks if mark.islower()]
    words = chance.sample(WORDS, 5)
    shared, own = words[:chance.randrange(1, 4)], words[3:3 + chance.randrange(2)]
    module = [f"{word} = {drawn_set(chance, plain) if chance.randrange(3) else '{}'}" for word in shared]
    if chance.randrange(5) == 0:
        module.append(f"{shared[-1]} = {shared[0]}")
    caller = [f"{word} = {chance.choice([*shared, '{}', drawn_set(chance, marks)])}" for word in own]
    if chance.randrange(3) == 0:
        caller.append(drawn_plain(chance, marks, shared, shared))
    task = []
    while len(task) < 4 or (len(task) < 11 and chance.randrange(3)):
        if chance.randrange(2):
            held = [chance.choice(["item", *shared]), chance.choice(shared), drawn_set(chance, plain)]
            task.append(chance.choice([
                f"if {chance.choice(plain)} in {held[0]}", f"if not {chance.choice(plain)} in {held[0]}",
                f"if {held[2]} <= {held[1]}", f"if {held[1]} == {held[2]}"]))
            task.append(talking_row(chance, plain, shared))
            if chance.randrange(3) == 0:
                task += ["else", talking_row(chance, plain, shared)]
            task.append("end")
        else:
            task.append(talking_row(chance, marks, shared))
    return marks, module, caller, task


def drawn_settings(chance, program, way):
    """Settings of Walk, as keywords."""
    return {
        "workers": chance.choice([1, 2, 2, 3]), "chunk": chance.choice([None, 1, 2, 3]),
        "begin": drawn_names(chance, program) if way == "anew" and chance.randrange(2) else [],
        "back": drawn_names(chance, program) if chance.randrange(2) else [], "renew": chance.randrange(4) == 0,
        "seen": chance.choice(["all", "answers"])}
