"""Chunks: tasks that are run one after another in one world, and what a worker sends back of them."""

from workerworlds.boxes import Box
from workerworlds.crossing import crossed
from workerworlds.errors import CannotCross, TaskFailed


def can_be_told(told, cause):
    """Whether neither what a failure tells nor its cause has a bound mark."""
    return Box(told).crosses and Box(cause or "").crosses


def run_tasks(task, world, boxes, start):
    """Runs the tasks in order, up to the first failure; gives their answers, the very boxes, and the failure or None.

    The first of the boxes is that of the item with the index start.
    """
    answers = []
    for at, box in enumerate(boxes):
        try:
            answers.append(task(world, box))
        except TaskFailed as error:
            return answers, ("failed", start + at, error.told, error.cause)
    return answers, None


def sent_failure(failure):
    """The failure of a chunk in which a task has failed like this."""
    _, at, told, cause = failure
    return failure if can_be_told(told, cause) else ("crossing", at, "error")


def run_chunk(task, world, boxes, start, back):
    """Runs a chunk in the world of its worker; gives its failure or None, the answers, and the boxes brought back.

    All boxes that it gives are copies. A chunk that fails gives none of them.
    """
    try:
        answers, failure = run_tasks(task, world, crossed(boxes, "item"), start)
        if failure is not None:
            return sent_failure(failure), [], []
        sent = crossed(answers, "answer")
    except CannotCross as error:
        return ("crossing", start + error.at, error.what), [], []
    try:
        return None, sent, crossed([world[name] for name in back], "back")
    except CannotCross:
        return ("crossing", start + len(boxes) - 1, "back"), [], []
