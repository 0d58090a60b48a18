"""Scenes: the world of the loop beside the world of one watched worker, and the steps between scenes."""

from workerworlds.checks import check_settings
from workerworlds.errors import BadSetting
from workerworlds.pools import Pool, Way, start_world
from workerworlds.steps import Step
from workerworlds.tasks import Task

SEEN = ("all", "answers")


class Walk:
    """The scenes of a program with the settings of a pool, from the first one on."""

    def __init__(self, program, way, *, workers=2, chunk=1, begin=(), back=(), renew=False, seen="all"):
        # None stands for any cut, which is right here.
        most = 1 if chunk is None else chunk
        check_settings(program, (Way.COPIED, Way.ANEW), way, workers, most, begin, back, renew)
        if seen not in SEEN:
            raise BadSetting("seen")
        begun = program.begun()
        self.program = program
        self.way = way
        self.workers = workers
        self.chunk = chunk
        self.begin = tuple(begin)
        self.back = tuple(back)
        self.renew = renew
        self.seen = seen
        self.sees_all = seen == "all"
        self.job = Task(program)
        self.start = start_world(program, way, begun, begin)
        # What the own names pass is sent as it is when the call begins.
        self.sent = begun.copied(program.own_names())
        self.first = (begun.rows(), (), self.start.rows(), False, 0)

    def letters(self):
        """The items that lead on from a scene."""
        return self.program.letters()

    def moves(self, scene):
        """The moves that are possible in a scene."""
        size = scene[-1]
        found = []
        if size != 0 and (self.chunk is None or self.chunk > size):
            found.append("on")
        if size == 0 or self.chunk is None or size == self.chunk:
            found.append("ours")
            if self.workers > 1:
                found.append("away")
        return found

    def after(self, scene, letter, move):
        """What the step by a letter and a move gives: that it differs, that it ends, or the scenes it leads to."""
        step = Step(self, scene, letter, move)
        if step.differs():
            return ("differs",)
        if step.loop.failed is not None:
            return ("ends",)
        return "scenes", step.scenes()


def new_pool(walk):
    """A new pool with the settings of a walk, for calls that tell their cut."""
    return Pool(walk.program, walk.way, workers=walk.workers, begin=walk.begin, back=walk.back, renew=walk.renew)
