"""Judging: whether a pool is alike to the plain loop, and what shows it."""

from workerworlds.checks import wrong_size, wrong_worker
from workerworlds.dealings import even_cut
from workerworlds.errors import TooMany
from workerworlds.pools import Pool, Way
from workerworlds.scenes import Walk, new_pool

MOST_SCENES = 100
ALIKE = "alike"
PARTED = "parted"


class Verdict:
    """Whether a pool is alike to the plain loop, with a certificate, and the scenes by the number of items."""

    def __init__(self, certificate, levels):
        self.certificate = certificate
        self.levels = levels
        self.shortest = certificate[1] if certificate[0] == PARTED else ()

    def __bool__(self):
        return self.certificate[0] == ALIKE

    def __len__(self):
        return len(self.shortest)


def judge(program, way, *, workers=2, chunk=1, begin=(), back=(), renew=False, seen="all"):
    """The verdict on the pools with these settings."""
    walk = Walk(program, way, workers=workers, chunk=chunk, begin=begin, back=back, renew=renew, seen=seen)
    return judged(walk)


def judged(walk):
    """The verdict that the scenes of a walk give."""
    # For each scene the step by which it was first reached.
    came = {walk.first: None}
    levels = []
    level = [walk.first]
    while len(level) > 0:
        levels.append(tuple(level))
        taken = steps_from(walk, level)
        for scene, letter, move, led in taken:
            if led[0] == "differs":
                return Verdict(parting(path_to(came, scene) + [(letter, move)]), tuple(levels))
        level = sorted(newly_reached(came, taken))
        if len(came) > MOST_SCENES:
            raise TooMany("scenes")
    return Verdict((ALIKE, tuple(sorted(came))), tuple(levels))


def steps_from(walk, level):
    """All steps from some scenes: the scene, the letter, the move and what the step gives."""
    taken = []
    for scene in level:
        for letter in walk.letters():
            for move in walk.moves(scene):
                taken.append((scene, letter, move, walk.after(scene, letter, move)))
    return taken


def newly_reached(came, taken):
    """The scenes that these steps are the first to reach, which are added to those that came."""
    level = []
    for scene, letter, move, led in taken:
        if led[0] == "scenes":
            for following in led[1]:
                if following not in came:
                    came[following] = (scene, letter, move)
                    level.append(following)
    return level


def path_to(came, scene):
    """The letters and moves that lead from the first scene to this one."""
    path = []
    while came[scene] is not None:
        scene, letter, move = came[scene]
        path.append((letter, move))
    return path[::-1]


def parting(path):
    """The certificate of a parted pool, of the letters and moves that lead to a step that differs."""
    sizes = []
    dealing = []
    for _, move in path:
        if move == "on":
            sizes[-1] += 1
        else:
            # What any other worker does, another one alone can do.
            sizes.append(1)
            dealing.append(0 if move == "ours" else 1)
    return PARTED, tuple([letter for letter, _ in path]), tuple(sizes), tuple(dealing)


def is_certificate(program, way, thing, *, workers=2, chunk=1, begin=(), back=(), renew=False, seen="all"):
    """Whether any value is a certificate for the pools with these settings."""
    walk = Walk(program, way, workers=workers, chunk=chunk, begin=begin, back=back, renew=renew, seen=seen)
    verdict = judged(walk)
    if verdict:
        return is_same(thing, verdict.certificate)
    return may_part(thing, walk, len(verdict)) and tells_apart(thing, walk)


def is_same(thing, wanted):
    """Whether any value is equal to this one of tuples, strings, integers and truth values, by kind, too."""
    if isinstance(wanted, tuple):
        if not isinstance(thing, tuple) or len(thing) != len(wanted):
            return False
        return all([is_same(part, other) for part, other in zip(thing, wanted)])
    return isinstance(thing, bool) == isinstance(wanted, bool) and thing == wanted


def may_part(thing, walk, many):
    """Whether any value has the form of a certificate of a parted pool with so many items."""
    if not isinstance(thing, tuple) or len(thing) != 4 or thing[0] != PARTED:
        return False
    _, letters, cut, dealing = thing
    if not isinstance(letters, tuple) or len(letters) != many:
        return False
    if not all([letter in walk.letters() for letter in letters]) or wrong_size(cut, many) is not None:
        return False
    if walk.chunk is not None and cut != even_cut(many, walk.chunk):
        return False
    return wrong_worker(dealing, len(cut), walk.workers) is None


def tells_apart(thing, walk):
    """Whether the items, the cut and the dealing of a certificate tell a pool from the loop."""
    _, letters, cut, dealing = thing
    loop = Pool(walk.program, Way.HERE).outcome(list(letters))
    outcome = new_pool(walk).outcome(list(letters), cut=cut, dealing=dealing)
    return not outcome.alike(loop, seen=walk.seen)
