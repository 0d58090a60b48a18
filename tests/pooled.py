"""Pools beside the package, to compare it with: Python's own sets in the places of boxes, pickle where boxes cross.

A world is a dict of names and sets; two names share a set if they share a box. What Python itself copies for a forked
process, and what pickle gives of a list of sets, is what the document says of copies and of crossing.
"""

import copy
import itertools
import pickle

from drawn import Fails, model_rows, model_task, model_world
from helping import contents_of


class Stays(Exception):
    """Some of the sets have a bound mark; the index is that of the first."""

    def __init__(self, at):
        super().__init__(at)
        self.at = at


def is_bound(marks):
    return any(mark.isupper() for mark in marks)


def pickled(sets):
    """Copies of the sets; those that are one set are one copy."""
    for at, marks in enumerate(sets):
        if is_bound(marks):
            raise Stays(at)
    return pickle.loads(pickle.dumps(list(sets)))


def begun_model(program):
    return model_world(program.caller, model_world(program.module))


def start_model(program, way, caller, begin):
    """What a worker starts with; raises Stays."""
    if way == "copied":
        return copy.deepcopy({name: caller[name] for name in program.global_names()})
    world = model_world(program.module)
    for name, marks in zip(begin, pickled([caller[name] for name in begin])):
        world[name] = marks
    return world


def even(count, chunk):
    """The even cut, as it is counted by hand."""
    sizes = []
    for at in range(count):
        if at % chunk == 0:
            sizes.append(0)
        sizes[-1] += 1
    return tuple(sizes)


class ModelPool:
    """What Pool is said to be."""

    def __init__(self, program, way, workers=2, chunk=1, begin=(), back=(), renew=False):
        self.program, self.way, self.workers, self.chunk = program, way, workers, chunk
        self.back, self.renew = tuple(back), renew
        self.task = model_task(program)
        self.caller = begun_model(program)
        self.worlds = []
        if way != "here":
            self.start = start_model(program, way, self.caller, begin)
            self.worlds = [copy.deepcopy(self.start) for _ in range(workers)]

    def do(self, row):
        self.caller = model_world([row], self.caller)

    def outcome(self, items, cut=None, dealing=None):
        """Answers, failure, world and what was passed."""
        cut = even(len(items), self.chunk) if cut is None else cut
        if dealing is None:
            dealing = tuple(itertools.islice(itertools.cycle(range(self.workers)), len(cut)))
        sets = [set(told) if kind == "box" else self.caller[told] for kind, told in items]
        if self.way == "here":
            answers, failure = self.loop(sets)
        else:
            answers, failure = self.take([*self.chunks(sets, cut, dealing)])
        passed = tuple(contents_of(marks) for marks in sets)
        return tuple(contents_of(marks) for marks in answers), failure, model_rows(self.caller), passed

    def loop(self, sets):
        answers = []
        for at, marks in enumerate(sets):
            try:
                answers.append(self.task(self.caller, marks))
            except Fails as failure:
                return answers, ("failed", at, failure.told, failure.cause)
        return answers, None

    def chunks(self, sets, cut, dealing):
        places = iter(range(len(sets)))
        for size, worker in zip(cut, dealing):
            yield self.chunk_run(worker, [(at, sets[at]) for at in itertools.islice(places, size)])

    def chunk_run(self, worker, places):
        """A failure, or answers and what is brought."""
        if self.renew:
            self.worlds[worker] = copy.deepcopy(self.start)
        world = self.worlds[worker]
        indexes = [at for at, _ in places]
        try:
            sent = pickled([marks for _, marks in places])
        except Stays as stays:
            return ("crossing", indexes[stays.at], "item")
        answers = []
        for at, marks in zip(indexes, sent):
            try:
                answers.append(self.task(world, marks))
            except Fails as failure:
                if is_bound(failure.told) or is_bound(failure.cause or ""):
                    return ("crossing", at, "error")
                return ("failed", at, failure.told, failure.cause)
        try:
            answers = pickled(answers)
        except Stays as stays:
            return ("crossing", indexes[stays.at], "answer")
        try:
            return answers, pickled([world[name] for name in self.back])
        except Stays:
            return ("crossing", indexes[-1], "back")

    def take(self, ran):
        answers = []
        for what in ran:
            if what[0] in ("failed", "crossing"):
                return answers, what
            answers += what[0]
            for name, marks in zip(self.back, what[1]):
                self.caller[name].update(marks)
        return answers, None


def as_tuple(outcome):
    """An outcome of the package, as the model has it."""
    return outcome.answers, outcome.failure, outcome.world, outcome.passed


def alike_by(one, other, seen):
    """Whether two outcomes of the model are alike."""
    answers, failure, world, passed = one
    if failure != other[1] or (failure is None and answers != other[0]):
        return False
    return seen == "answers" or (world, passed) == other[2:]
