"""Checks: whether any values are the settings, the items, the cut and the dealing that a pool takes."""

from workerworlds.boxes import are_contents
from workerworlds.dealings import MOST_IN_CHUNK, MOST_WORKERS, is_whole
from workerworlds.errors import BadItem, BadSetting


def are_globals(thing, program):
    """Whether any value is a list or tuple of different globals of the program."""
    if not isinstance(thing, (list, tuple)):
        return False
    shared = program.global_names()
    return all([name in shared for name in thing]) and len(set(thing)) == len(thing)


def check_settings(program, ways, way, workers, chunk, begin, back, renew):
    """Raises BadSetting with the name of the first setting that is wrong."""
    right = {
        "way": way in ways,
        "workers": is_whole(workers, 1, MOST_WORKERS),
        "chunk": is_whole(chunk, 1, MOST_IN_CHUNK),
        "begin": are_globals(begin, program),
        "back": are_globals(back, program),
        "renew": isinstance(renew, bool),
    }
    for name in right:
        if not right[name]:
            raise BadSetting(name)


def is_item(thing, program):
    """Whether any value is an item for the program."""
    if not isinstance(thing, tuple) or len(thing) != 2:
        return False
    kind, told = thing
    if kind == "box":
        return are_contents(told) and all([mark in program.marks for mark in told])
    return kind == "name" and told in program.names()


def check_items(items, program):
    """Raises BadItem if any value is not a list of items."""
    if not isinstance(items, list):
        raise BadItem(-1)
    for at, item in enumerate(items):
        if not is_item(item, program):
            raise BadItem(at)


def wrong_size(cut, count):
    """The index at which any value is not a cut of so many items, -1 if it is no tuple, None if all is right."""
    if not isinstance(cut, tuple):
        return -1
    left = count
    for at, size in enumerate(cut):
        if not is_whole(size, 1, left):
            return at
        left = left - size
    return len(cut) if left > 0 else None


def wrong_worker(dealing, chunks, workers):
    """The index at which any value is not a dealing of so many chunks, -1 if it is no tuple, None if all is right."""
    if not isinstance(dealing, tuple):
        return -1
    for at, worker in enumerate(dealing):
        if at >= chunks or not is_whole(worker, 0, workers - 1):
            return at
    return len(dealing) if len(dealing) < chunks else None
