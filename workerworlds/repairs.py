"""Repairs: globals that are handed over, brought back or made anew, and the outcomes that a list can have."""

from workerworlds.checks import are_globals, check_items
from workerworlds.dealings import Cuts, Dealings, power
from workerworlds.errors import BadSetting, CannotCross, TooMany
from workerworlds.judging import judge
from workerworlds.scenes import Walk, new_pool

KINDS = ("begin", "back", "anew")
MOST_PAIRS = 200


def made_anew(program, names):
    """The program whose task binds these globals to new boxes first, as the module has made them."""
    if not are_globals(names, program):
        raise BadSetting("names")
    rows = []
    for shared, contents in program.imported().copied(names).rows():
        first = shared[0]
        rows.append(first + " = {" + contents + "}")
        rows.extend([f"{other} = {first}" for other in shared[1:]])
    return program.changed(task=[*rows, *program.task])


def sets_of(names, size):
    """All tuples of so many of these names, which ascend, in ascending order."""
    if size == 0:
        return [()]
    found = []
    for at, first in enumerate(names):
        found.extend([(first, *others) for others in sets_of(names[at + 1:], size - 1)])
    return found


def is_repair(program, way, kind, names, settings):
    """Whether the pool is alike if this is done with these globals."""
    if kind == "anew":
        other = made_anew(program, names)
        return bool(judge(other, way, **settings))
    changed = {**settings, kind: names}
    try:
        return bool(judge(program, way, **changed))
    except CannotCross:
        return False


def least(program, way, kind, *, workers=2, chunk=1, begin=(), back=(), renew=False, seen="all"):
    """The smallest sets of globals that make the pool alike if this is done with them."""
    if kind not in KINDS:
        raise BadSetting("kind")
    settings = {"workers": workers, "chunk": chunk, "begin": begin, "back": back, "renew": renew, "seen": seen}
    Walk(program, way, **settings)
    if kind != "anew" and len(settings[kind]) > 0:
        raise BadSetting(kind)
    shared = program.global_names()
    for size in range(len(shared) + 1):
        found = [names for names in sets_of(shared, size) if is_repair(program, way, kind, names, settings)]
        if len(found) > 0:
            return found
    return []


def many_pairs(cuts, workers):
    """How many pairs of a cut and a dealing there are."""
    return sum([power(workers, len(cut)) for cut in cuts.each()])


def spread(program, way, items, *, workers=2, chunk=1, begin=(), back=(), renew=False, seen="all"):
    """The different outcomes that a list has, each with the first cut and dealing that lead to it."""
    walk = Walk(program, way, workers=workers, chunk=chunk, begin=begin, back=back, renew=renew, seen=seen)
    check_items(items, program)
    cuts = Cuts(len(items), chunk=chunk)
    if many_pairs(cuts, workers) > MOST_PAIRS:
        raise TooMany("dealings")
    found = []
    for cut in cuts.each():
        dealings = Dealings(len(cut), workers)
        for dealing in dealings.each():
            outcome = new_pool(walk).outcome(items, cut=cut, dealing=dealing)
            if not any([outcome.alike(other[0], seen=seen) for other in found]):
                found.append((outcome, cut, dealing))
    return found
