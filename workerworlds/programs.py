"""Programs: marks, module rows, caller's rows and task rows."""

from workerworlds.boxes import are_contents
from workerworlds.errors import BadProgram, BadText, TooMany
from workerworlds.rows import first_part, is_plain, is_task_row, run_plain
from workerworlds.worlds import World

MOST_MARKS = 3
MOST_PLAIN_MARKS = 2
MOST_PLAIN_ROWS = 6
MOST_TASK_ROWS = 16
MOST_GLOBALS = 3
MOST_OWN_NAMES = 2
MOST_NAMES = 4


def plain_marks(marks):
    """Those of the marks that are plain."""
    return [mark for mark in marks if mark.islower()]


def check_marks(marks):
    """Raises BadProgram if any value is not the marks of a program."""
    if not are_contents(marks) or not 1 <= len(marks) <= MOST_MARKS or len(plain_marks(marks)) > MOST_PLAIN_MARKS:
        raise BadProgram("marks", -1)


def check_rows(part, rows, most):
    """Raises what is raised for a part as a whole."""
    if not isinstance(rows, list):
        raise BadProgram(part, -1)
    if len(rows) > most:
        raise TooMany("rows")


def bound_behind(part, rows, words, marks):
    """The words that are bound behind these plain rows, if those given are bound ahead of them."""
    bound = list(words)
    for at, row in enumerate(rows):
        if not is_plain(row, bound, marks, True):
            raise BadProgram(part, at)
        left = first_part(row)
        if left not in bound:
            bound.append(left)
    return bound


def blocks_behind(row, blocks):
    """The blocks that wait for their end behind a task row, the inner ones last; None if the row cannot stand here.

    A block is told by the row that it waits behind, "if" or "else".
    """
    form = first_part(row)
    if form == "if":
        return [*blocks, "if"]
    if form == "else":
        return [*blocks[:-1], "else"] if blocks[-1:] == ["if"] else None
    if form == "end":
        return blocks[:-1] if len(blocks) > 0 else None
    return blocks


def check_task(rows, words, marks):
    """Raises BadProgram at the first task row that cannot stand where it does."""
    blocks = []
    for at, row in enumerate(rows):
        if not is_task_row(row, words, marks):
            raise BadProgram("task", at)
        blocks = blocks_behind(row, blocks)
        if blocks is None:
            raise BadProgram("task", at)
    if len(blocks) > 0:
        raise BadProgram("task", len(rows))


def place_of(line, lines, start):
    """Where this line stands first, from start on; raises BadText if it does not."""
    for at in range(start, len(lines)):
        if lines[at] == line:
            return at
    raise BadText(len(lines))


class Program:
    """A small program: what a module binds, what its caller does, and the task."""

    def __init__(self, marks, module, caller, task):
        check_marks(marks)
        check_rows("module", module, MOST_PLAIN_ROWS)
        shared = bound_behind("module", module, [], marks)
        if len(shared) > MOST_GLOBALS:
            raise TooMany("globals")
        check_rows("caller", caller, MOST_PLAIN_ROWS)
        bound = bound_behind("caller", caller, shared, marks)
        own = [name for name in bound if name not in shared]
        if len(own) > MOST_OWN_NAMES or len(bound) > MOST_NAMES:
            raise TooMany("names")
        check_rows("task", task, MOST_TASK_ROWS)
        check_task(task, [*shared, "item", "out"], marks)
        self.marks = marks
        self.module = tuple(module)
        self.caller = tuple(caller)
        self.task = tuple(task)
        self.shared = tuple(shared)
        self.own = tuple(own)

    def __str__(self):
        return "\n".join(
            [f"marks {self.marks}", "module", *self.module, "caller", *self.caller, "task", *self.task]
        )

    def global_names(self):
        """The globals, ascending."""
        return sorted(self.shared)

    def own_names(self):
        """The own names of the caller, ascending."""
        return sorted(self.own)

    def names(self):
        """The caller's names, ascending: the globals and the own names."""
        return sorted(self.shared + self.own)

    def letters(self):
        """The items with which the program is compared: new boxes of plain marks, then the own names."""
        found = [""]
        for mark in plain_marks(self.marks):
            found = found + [contents + mark for contents in found]
        boxes = [("box", contents) for contents in sorted(found)]
        return boxes + [("name", name) for name in self.own_names()]

    def imported(self):
        """A new world, as the module rows make it."""
        world = World()
        for row in self.module:
            run_plain(row, world)
        return world

    def begun(self):
        """A new world, as the caller's rows make it of the imported one."""
        world = self.imported()
        for row in self.caller:
            run_plain(row, world)
        return world

    def changed(self, *, module=None, caller=None, task=None):
        """A new program with other rows in the parts that are not None."""
        return Program(
            self.marks,
            list(self.module) if module is None else module,
            list(self.caller) if caller is None else caller,
            list(self.task) if task is None else task,
        )

    @staticmethod
    def read(text):
        """The program that is written in these lines."""
        if not isinstance(text, str):
            raise BadText(-1)
        lines = text.split("\n")
        if not lines[0].startswith("marks "):
            raise BadText(0)
        if len(lines) > 1 and lines[1] != "module":
            raise BadText(1)
        caller = place_of("caller", lines, 2)
        task = place_of("task", lines, caller + 1)
        return Program(
            lines[0].removeprefix("marks "), lines[2:caller], lines[caller + 1:task], lines[task + 1:]
        )
