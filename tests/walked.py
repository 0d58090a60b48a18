"""The steps between scenes beside the package, to compare it with: in the words of points 26 to 30, over Python's sets.

A world is a dict of names and sets, as in pooled.py. The conditions of point 29 are told one by one, each with a number
in the order of the document, so that a test can ask which of them hold.
"""

import copy

from drawn import Fails, model_rows, model_task
from helping import contents_of
from pooled import begun_model, is_bound, start_model


def model_of(rows):
    """A new model of a world with these rows."""
    world = {}
    for names, contents in rows:
        marks = set(contents)
        world.update({name: marks for name in names})
    return world


def alone(world, name):
    """Whether the name is bound and its set has no other name."""
    return name in world and [other for other in world if world[other] is world[name]] == [name]


def without_watched(world):
    return {name: marks for name, marks in world.items() if name not in ("answer", "given")}


def letter(text):
    """A letter by its contents, or by its name behind a point."""
    return ("name", text[1:]) if text.startswith(".") else ("box", text)


def watched(scene):
    """The name of the watched box of a scene, or None."""
    names = [name for entry in scene[0] for name in entry[0] if name in ("answer", "given")]
    return names[0] if names else None


class Side:
    """The task in one of the two worlds."""

    def __init__(self, task, world, passed):
        self.passed, self.answer, self.failure = passed, None, None
        try:
            self.answer = task(world, passed)
        except Fails as failure:
            self.failure = (failure.told, failure.cause)

    def fails_bound(self):
        return self.failure is not None and any(is_bound(told) for told in self.failure if told is not None)


class ModelWalk:
    """What Walk is said to be."""

    def __init__(self, program, way, workers=2, chunk=1, begin=(), back=(), renew=False, seen="all"):
        self.program, self.workers, self.chunk = program, workers, chunk
        self.back, self.renew, self.seen = tuple(back), renew, seen
        self.task = model_task(program)
        self.begun = begun_model(program)
        self.start = start_model(program, way, self.begun, begin)
        self.first = (model_rows(self.begun), (), model_rows(self.start), False, 0)

    def moves(self, scene):
        size = scene[4]
        begins = size == 0 or self.chunk is None or size == self.chunk
        goes_on = size != 0 and (self.chunk is None or self.chunk > size)
        possible = {"on": goes_on, "ours": begins, "away": begins and self.workers >= 2}
        return [move for move in ("on", "ours", "away") if possible[move]]

    def moved(self, scene, move):
        """The scene behind the move, ahead of the task: worlds in the places of rows."""
        mine, before, theirs, turn, size = scene
        mine, theirs = model_of(mine), model_of(theirs)
        if move == "on":
            return mine, before, theirs, turn, size if self.chunk is None else size + 1
        theirs = {name: marks for name, marks in theirs.items() if name != "answer" and name[:5] != "sent "}
        if alone(mine, "answer"):
            del mine["answer"]
        if self.renew:
            theirs = copy.deepcopy(self.start)
        before = model_rows(without_watched(mine)) if self.seen == "all" and move == "ours" else ()
        if move == "ours":
            sent = copy.deepcopy({name: self.begun[name] for name in self.program.own_names()})
            theirs.update({"sent " + name: marks for name, marks in sent.items()})
        return mine, before, theirs, move == "ours", 1

    def conditions(self, scene, letter, move):
        """The numbers of the conditions of point 29 that hold, and what scenes() needs."""
        kind, told = letter
        mine, before, theirs, turn, size = self.moved(scene, move)
        held = {name: contents_of(mine[name]) for name in ("answer", "given") if name in mine}
        loop = Side(self.task, mine, set(told) if kind == "box" else mine[told])
        pool = Side(self.task, theirs, set(told) if kind == "box" else theirs["sent " + told]) if turn else None
        both_done = turn and loop.failure is None and pool.failure is None
        sees_all = self.seen == "all"
        watched = loop.failure is None and "answer" in held
        taken = model_of(before)
        if both_done and sees_all:
            for name in self.back:
                taken[name] |= theirs[name]
        found = [
            turn and kind == "name" and is_bound(self.begun[told]),
            turn and (loop.failure != pool.failure or pool.fails_bound()),
            both_done and (pool.answer != loop.answer or is_bound(pool.answer)),
            watched and "answer" in theirs and (theirs["answer"] != mine["answer"] or is_bound(theirs["answer"])),
            watched and "answer" not in theirs and contents_of(mine["answer"]) != held["answer"],
            sees_all and (
                (kind == "box" and contents_of(loop.passed) != told)
                or ("given" in held and contents_of(mine["given"]) != held["given"])),
            both_done and any(is_bound(theirs[name]) for name in self.back),
            turn and sees_all and model_rows(without_watched(mine)) != model_rows(taken),
        ]
        numbers = [at for at, holds in enumerate(found, 1) if holds]
        return numbers, (mine, before, theirs, turn, size), held, loop, pool

    def after(self, scene, letter, move):
        numbers, (mine, before, theirs, turn, size), held, loop, pool = self.conditions(scene, letter, move)
        if numbers:
            return ("differs",)
        if loop.failure is not None:
            return ("ends",)
        more = [({}, {})]
        if not held and turn:
            more.append(({"answer": loop.answer}, {"answer": pool.answer}))
        if not held and self.seen == "all" and letter[0] == "box":
            more.append(({"given": loop.passed}, {}))
        scenes = set()
        for in_mine, in_theirs in more:
            one, other = {**mine, **in_mine}, {**theirs, **in_theirs}
            if alone(other, "answer"):
                del other["answer"]
            if alone(one, "answer") and "answer" not in other:
                del one["answer"]
            if alone(one, "given"):
                del one["given"]
            scenes.add((model_rows(one), before, model_rows(other), turn, size))
        return "scenes", tuple(sorted(scenes))

    def judged(self):
        """The number of items of the shortest lists, None if there are none, and the levels; None for too many."""
        levels, known = [[self.first]], {self.first}
        while True:
            led = set()
            for scene in levels[-1]:
                for letter in self.program.letters():
                    for move in self.moves(scene):
                        what = self.after(scene, letter, move)
                        if what[0] == "differs":
                            led.add(None)
                        elif what[0] == "scenes":
                            led.update(what[1])
            if None in led:
                return len(levels), tuple(tuple(level) for level in levels)
            if len(known | led) > 100:
                return None
            if led <= known:
                return 0, tuple(tuple(level) for level in levels)
            levels.append(sorted(led - known))
            known |= led
