"""Programs that several tests judge."""

from workerworlds.programs import Program

KEEPS = Program("a", ["kept = {}"], [], ["kept |= item", "out = kept"])

# Two globals with two marks each count the items, from 0 to 15.
COUNT = ["g ^= {a}", "if not a in g", "g ^= {b}", "if not b in g", "h ^= {a}", "if not a in h", "h ^= {b}",
         "end", "end", "end"]
UP_TO_ELEVEN = ["if g == {ab}", "if h == {b}", "g = {}", "h = {}", "end", "end"]
TELL_FIFTEEN = ["if g == {ab}", "if h == {ab}", "out = {a}", "end", "end"]
SHIFT = ["k = h | {}", "h = g | {}", "g = item | {}"]


def counting(start, task):
    """A program that begins to count with this number."""
    signs = ["{}", "{a}", "{b}", "{ab}"]
    return Program("ab", [f"g = {signs[start % 4]}", f"h = {signs[start // 4]}"], [], task)


def shifting(task):
    return Program("ab", ["g = {}", "h = {}", "k = {}"], [], task)
