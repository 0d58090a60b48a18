"""Tasks: the task rows of a program, run in a world with a box that is passed."""

from workerworlds.boxes import Box
from workerworlds.errors import TaskFailed
from workerworlds.rows import run_plain, valued
from workerworlds.worlds import World


def jumps_of(rows):
    """For the index of each `if` that of its `else` or `end`, for that of each `else` that of its `end`."""
    jumps = {}
    waiting = []
    for at, row in enumerate(rows):
        if row in ("else", "end"):
            jumps[waiting.pop()] = at
        if row == "else" or row.startswith("if "):
            waiting.append(at)
    return jumps


def compares(one, sign, other, world):
    """Whether a condition without `not` holds in the world."""
    if sign == "in":
        return one in valued(other, world)
    if sign == "is":
        return world.same(one, other)
    if sign == "==":
        return str(valued(one, world)) == str(valued(other, world))
    return valued(one, world).within(valued(other, world))


def holds(row, world):
    """Whether the condition of an `if` row holds in the world."""
    parts = row.split(" ")
    one, sign, other = parts[-3:]
    return compares(one, sign, other, world) == (parts[1] != "not")


def failure_of(row, world):
    """What a `fail` row tells, and its cause or None."""
    parts = row.split(" ")
    told = str(valued(parts[1], world))
    if len(parts) == 2:
        return told, None
    return told, str(valued(parts[3], world))


class Task:
    """The task of a program: a call runs it in a world, which it changes."""

    def __init__(self, program):
        self.wanted = program.global_names()
        self.steps = program.task
        self.jumps = jumps_of(program.task)

    def __call__(self, world, box):
        run = World()
        # A name that is not bound is refused here, by the world, before anything has changed.
        for name in self.wanted:
            run[name] = world[name]
        run["item"] = box
        run["out"] = Box()
        failure = self.failure_in(run)
        # Names that were bound again are bound again in the world, too, also when the task has failed.
        for name in self.wanted:
            world[name] = run[name]
        if failure is not None:
            told, cause = failure
            raise TaskFailed(-1, told, cause)
        return run["out"]

    def failure_in(self, run):
        """Runs the rows in a world with `item` and `out`; gives what a failure tells and its cause, or None."""
        at = 0
        while at < len(self.steps):
            row = self.steps[at]
            if row == "stop":
                return None
            if row.startswith("fail "):
                return failure_of(row, run)
            if row == "else" or (row.startswith("if ") and not holds(row, run)):
                at = self.jumps[at]
            elif row != "end" and not row.startswith("if "):
                run_plain(row, run)
            at = at + 1
        return None


def box_of(item, world):
    """The box that an item passes: a new one, or the one that its name has in the world."""
    kind, told_by = item
    return Box(told_by) if kind == "box" else world[told_by]


def run_task(program, rows, item):
    """Runs the task in a world with these rows, and gives the rows behind it, and what it fails with."""
    world = World.read(rows)
    box = box_of(item, world)
    task = Task(program)
    try:
        answer = task(world, box)
    except TaskFailed as failure:
        world["item"] = box
        return "failed", world.rows(), failure.told, failure.cause
    world["item"] = box
    world["out"] = answer
    return "done", world.rows()
