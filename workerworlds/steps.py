"""Steps: what an item does to the worlds of a scene, whether the caller can tell then, and where it leads."""

from workerworlds.boxes import Box
from workerworlds.chunks import can_be_told
from workerworlds.errors import TaskFailed
from workerworlds.tasks import box_of
from workerworlds.worlds import World

ANSWER = "answer"
GIVEN = "given"
WATCHED = ("answer", "given")


def sent_name(name):
    """The name that the watched worker has for the copy of the box of an own name."""
    return f"sent {name}"


def let_go(world, name):
    """The name leaves the world if its box has no other name there; nothing happens if it is not bound."""
    if name in world and not any([world.same(name, other) for other in world.names() if other != name]):
        world.unbind(name)


def bare_rows(world):
    """The rows of a world without the name of a watched box."""
    return world.copied([name for name in world.names() if name not in WATCHED]).rows()


def also_bound(world, name, box):
    """A world with the very boxes of this one, and one name more."""
    other = World()
    for known in world.names():
        other[known] = world[known]
    other[name] = box
    return other


class Run:
    """One run of a task: the box that was passed, and the answer, or what the failure told and its cause."""

    def __init__(self, task, world, box):
        self.box = box
        self.answer = None
        self.failed = None
        try:
            self.answer = task(world, box)
        except TaskFailed as error:
            self.failed = (error.told, error.cause)


class Step:
    """A letter and a move that lead on from a scene of a walk."""

    def __init__(self, walk, scene, letter, move):
        mine, before, theirs, turn, size = scene
        self.walk = walk
        self.kind, self.told = letter
        self.mine = World.read(mine)
        self.before = before
        self.theirs = World.read(theirs)
        self.turn = turn
        self.size = size
        if move != "on":
            self.begin_chunk(move == "ours")
        elif walk.chunk is not None:
            self.size = size + 1
        self.watched = [name for name in WATCHED if name in self.mine]
        self.held = [str(self.mine[name]) for name in self.watched]
        self.loop = Run(walk.job, self.mine, box_of(letter, self.mine))
        self.ours = Run(walk.job, self.theirs, self.sent_box()) if self.turn else None

    def begin_chunk(self, ours):
        """The current chunk is over, and another one begins, of the watched worker or of another one."""
        for name in self.theirs.names():
            if name == ANSWER or name.startswith("sent "):
                self.theirs.unbind(name)
        let_go(self.mine, ANSWER)
        if self.walk.renew:
            self.theirs = self.walk.start.copied()
        self.before = bare_rows(self.mine) if ours and self.walk.sees_all else ()
        self.turn = ours
        if ours:
            copies = self.walk.sent.copied()
            for name in copies.names():
                self.theirs[sent_name(name)] = copies[name]
        self.size = 1

    def sent_box(self):
        """The box of the letter in the world of the watched worker."""
        if self.kind == "box":
            return Box(self.told)
        return self.theirs[sent_name(self.told)]

    def differs(self):
        """Whether the caller can tell the pool from the loop when the list ends here."""
        if self.turn and (self.item_stays() or self.failures_differ() or self.chunk_differs()):
            return True
        if self.loop.failed is None and self.watched == [ANSWER] and self.held_answer_differs():
            return True
        return self.walk.sees_all and (self.passed_differs() or (self.turn and self.worlds_differ()))

    def item_stays(self):
        """Whether the box of the letter cannot cross to a worker."""
        return self.kind == "name" and not self.walk.sent[self.told].crosses

    def failures_differ(self):
        """Whether the failures of both runs, if any, are not the same for the caller."""
        if self.ours.failed is None:
            return self.loop.failed is not None
        told, cause = self.ours.failed
        return self.loop.failed != self.ours.failed or not can_be_told(told, cause)

    def chunk_differs(self):
        """Whether the answers of both runs differ, or what the worker brings back does not cross."""
        if self.loop.failed is not None:
            return False
        if not all([self.theirs[name].crosses for name in self.walk.back]):
            return True
        return not self.ours.answer.crosses or str(self.ours.answer) != str(self.loop.answer)

    def held_answer_differs(self):
        """Whether the watched answer is not what the caller has or will have of the worker."""
        mine = str(self.mine[ANSWER])
        if ANSWER not in self.theirs:
            return mine != self.held[0]
        return mine != str(self.theirs[ANSWER]) or not self.theirs[ANSWER].crosses

    def passed_differs(self):
        """Whether the loop has changed a box that was passed."""
        if self.kind == "box" and str(self.loop.box) != self.told:
            return True
        return self.watched == [GIVEN] and str(self.mine[GIVEN]) != self.held[0]

    def worlds_differ(self):
        """Whether the loop has changed the caller's world otherwise than the watched chunk does when it is taken."""
        taken = World.read(self.before)
        if self.loop.failed is None:
            for name in self.walk.back:
                taken[name] |= self.theirs[name]
        return bare_rows(self.mine) != taken.rows()

    def scenes(self):
        """The different scenes to which the step leads, ascending."""
        found = [self.scene(self.mine, self.theirs)]
        if self.watched == [] and self.turn:
            mine = also_bound(self.mine, ANSWER, self.loop.answer)
            found.append(self.scene(mine, also_bound(self.theirs, ANSWER, self.ours.answer)))
        if self.watched == [] and self.walk.sees_all and self.kind == "box":
            found.append(self.scene(also_bound(self.mine, GIVEN, self.loop.box), self.theirs))
        return tuple(sorted(set(found)))

    def scene(self, mine, theirs):
        """The scene of these worlds, which lose the names of watched boxes that nobody can change any more."""
        let_go(theirs, ANSWER)
        if ANSWER not in theirs:
            let_go(mine, ANSWER)
        let_go(mine, GIVEN)
        return mine.rows(), self.before, theirs.rows(), self.turn, self.size
