"""Crossing: boxes that are copied together into another process."""

from workerworlds.errors import CannotCross


def crossed(boxes, what="item"):
    """Copies of the boxes, one copy of each box; raises CannotCross at the first with a bound mark."""
    for at, box in enumerate(boxes):
        if not box.crosses:
            raise CannotCross(at, what)
    copies = {}
    for box in boxes:
        if box not in copies:
            copies[box] = box.copied()
    return [copies[box] for box in boxes]
