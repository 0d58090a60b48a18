"""Pools: a list of items goes through the task here, or in workers that are copied or run the module anew."""

from workerworlds.checks import check_items, check_settings, wrong_size, wrong_worker
from workerworlds.chunks import run_chunk, run_tasks
from workerworlds.crossing import crossed
from workerworlds.dealings import even_cut, in_turn, is_whole
from workerworlds.errors import BadCut, BadDealing, BadRow, CannotCross, Closed, NoWorker, TaskFailed
from workerworlds.rows import is_plain, run_plain
from workerworlds.tasks import Task, box_of


class Way:
    """The ways in which a list of items goes through the task."""

    HERE = "here"
    COPIED = "copied"
    ANEW = "anew"

    @staticmethod
    def known():
        """All ways."""
        return Way.HERE, Way.COPIED, Way.ANEW


def start_world(program, way, world, begin):
    """The world with which a worker starts, the caller's world being this one."""
    if way == Way.COPIED:
        return world.copied(program.global_names())
    copies = crossed([world[name] for name in begin], "begin")
    start = program.imported()
    for at, name in enumerate(begin):
        start[name] = copies[at]
    return start


def cut_of(cut, count, chunk):
    """The cut, without one the even cut by chunk; raises BadCut if any value is no cut of so many items."""
    if cut is None:
        return even_cut(count, chunk)
    at = wrong_size(cut, count)
    if at is not None:
        raise BadCut(at)
    return cut


def dealing_of(dealing, chunks, workers):
    """The dealing, without one the dealing in turn; raises BadDealing if any value does not deal so many chunks."""
    if dealing is None:
        return in_turn(chunks, workers)
    at = wrong_worker(dealing, chunks, workers)
    if at is not None:
        raise BadDealing(at)
    return dealing


def raise_failure(failure):
    """Raises the failure of a call, if there is one."""
    if failure is None:
        return
    if failure[0] == "failed":
        _, at, told, cause = failure
        raise TaskFailed(at, told, cause)
    _, at, what = failure
    raise CannotCross(at, what)


class Outcome:
    """What a call has led to, as the caller sees it when the call has ended."""

    def __init__(self, answers, failure, world, passed):
        self.answers = tuple(answers)
        self.failure = failure
        self.world = world
        self.passed = tuple(passed)

    def alike(self, other, *, seen="all"):
        """Whether two outcomes are alike, by all or by their answers alone."""
        if self.failure != other.failure or (self.failure is None and self.answers != other.answers):
            return False
        return seen == "answers" or (self.world == other.world and self.passed == other.passed)


class Pool:
    """A program with the world of its caller and those of its workers, through which lists of items go."""

    def __init__(self, program, way, *, workers=2, chunk=1, begin=(), back=(), renew=False):
        check_settings(program, Way.known(), way, workers, chunk, begin, back, renew)
        self.program = program
        self.way = way
        self.workers = workers
        self.chunk = chunk
        self.back = tuple(back)
        self.renew = renew
        self.was_shut = False
        self.job = Task(program)
        self.world = program.begun()
        self.start = None
        self.worlds = []
        if way != Way.HERE:
            self.start = start_world(program, way, self.world, begin)
            self.worlds = [self.start.copied() for _ in range(workers)]

    def __enter__(self):
        return self

    def __exit__(self, kind, value, trace):
        self.shut()

    @property
    def is_open(self):
        """Whether the pool has not been closed."""
        return not self.was_shut

    def shut(self):
        """Closes the pool, for good."""
        self.was_shut = True

    def check_open(self):
        """Raises Closed if the pool is closed."""
        if self.was_shut:
            raise Closed()

    def rows(self):
        """The rows of the caller's world."""
        return self.world.rows()

    def worker(self, number):
        """The rows of the world of a worker."""
        if not is_whole(number, 0, len(self.worlds) - 1):
            raise NoWorker(number)
        return self.worlds[number].rows()

    def do(self, row):
        """Runs a plain row in the caller's world."""
        self.check_open()
        if not is_plain(row, self.program.names(), self.program.marks, False):
            raise BadRow(row)
        run_plain(row, self.world)

    def outcome(self, items, *, cut=None, dealing=None):
        """Lets the items go through the task; gives what it has led to."""
        self.check_open()
        check_items(items, self.program)
        sizes = cut_of(cut, len(items), self.chunk)
        numbers = dealing_of(dealing, len(sizes), self.workers)
        boxes = [box_of(item, self.world) for item in items]
        if self.way == Way.HERE:
            answers, failure = run_tasks(self.job, self.world, boxes, 0)
        else:
            # All chunks have been run before anything is brought back: items cross as they are when the call begins.
            answers, failure = self.taken(self.dealt_out(boxes, sizes, numbers))
        contents = [str(answer) for answer in answers]
        return Outcome(contents, failure, self.rows(), [str(box) for box in boxes])

    def dealt_out(self, boxes, sizes, numbers):
        """Lets the workers of these numbers run the chunks of these sizes; gives what each chunk has led to."""
        ran = []
        start = 0
        for size, number in zip(sizes, numbers):
            if self.renew:
                self.worlds[number] = self.start.copied()
            ran.append(run_chunk(self.job, self.worlds[number], boxes[start:start + size], start, self.back))
            start = start + size
        return ran

    def taken(self, ran):
        """Takes the chunks up to the first that has failed; gives the answers, and the failure or None."""
        answers = []
        for failure, sent, brought in ran:
            if failure is not None:
                return answers, failure
            answers.extend(sent)
            for name, box in zip(self.back, brought):
                self.world[name] |= box
        return answers, None

    def map(self, items, *, cut=None, dealing=None):
        """The answers for these items; raises the failure of the call, if it fails."""
        result = self.outcome(items, cut=cut, dealing=dealing)
        raise_failure(result.failure)
        return list(result.answers)

    def apply(self, *items, cut=None, dealing=None):
        """The answers for these items, as map gives them."""
        return self.map(list(items), cut=cut, dealing=dealing)

    def each(self, items, *, cut=None, dealing=None):
        """The answers for these items one by one, and behind them the failure of the call, if it fails."""
        result = self.outcome(items, cut=cut, dealing=dealing)
        yield from result.answers
        raise_failure(result.failure)


def used(pool, job):
    """What the job gives for the pool, which is closed then."""
    with pool:
        return job(pool)
