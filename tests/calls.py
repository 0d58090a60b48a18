"""All calls with so many items that settings allow: beside the package, to compare it with."""

import itertools

from pooled import ModelPool, alike_by, even


def all_cuts(count):
    """All cuts of so many items, ascending: beside the package, to compare it with."""
    if count == 0:
        return [()]
    return [(first, *rest) for first in range(1, count + 1) for rest in all_cuts(count - first)]


def cuts_of(count, chunk):
    return all_cuts(count) if chunk is None else [even(count, chunk)]


def pool_settings(settings):
    return {name: settings[name] for name in ("workers", "begin", "back", "renew") if name in settings}


def model_parts(program, way, settings, items, cut, dealing):
    """Whether the call of a new pool differs from the loop, by pools of Python's own sets."""
    loop = ModelPool(program, "here").outcome(items)
    pool = ModelPool(program, way, **pool_settings(settings)).outcome(items, cut, dealing)
    return not alike_by(pool, loop, settings.get("seen", "all"))


def all_calls(program, settings, count):
    """All lists of so many letters with all cuts and dealings that the settings allow."""
    for items in itertools.product(program.letters(), repeat=count):
        for cut in cuts_of(count, settings.get("chunk", 1)):
            for dealing in itertools.product(range(settings.get("workers", 2)), repeat=len(cut)):
                yield items, cut, dealing


def many_calls(program, settings, count):
    workers = settings.get("workers", 2)
    dealings = sum(workers ** len(cut) for cut in cuts_of(count, settings.get("chunk", 1)))
    return len(program.letters()) ** count * dealings
