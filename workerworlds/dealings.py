"""Dealings: how a list is cut into chunks, and how the chunks are dealt to workers."""

from workerworlds.errors import BadSetting, TooMany

MOST_TO_CUT = 12
MOST_IN_CHUNK = 9
MOST_CHUNKS = 12
MOST_WORKERS = 9
MOST_DEALINGS = 5000


def is_whole(thing, low, high):
    """Whether any value is an integer from low to high; True and False are none."""
    return isinstance(thing, int) and not isinstance(thing, bool) and low <= thing <= high


def even_cut(count, chunk):
    """The cut of so many items by chunk; only the last chunk may be smaller."""
    return tuple([min(chunk, count - done) for done in range(0, count, chunk)])


def in_turn(chunks, workers):
    """The dealing of so many chunks to the workers, one after another."""
    return tuple([at % workers for at in range(chunks)])


def power(base, exponent):
    """How many numbers of so many digits there are to the base, 1 for less than no digits."""
    worth = 1
    for _ in range(exponent):
        worth = worth * base
    return worth


def digits(number, base, many):
    """The last so many digits of a number to the base, the first of them at the front."""
    found = []
    for _ in range(many):
        found.append(number % base)
        number = number // base
    return found[::-1]


def cut_at(number, count):
    """The cut of so many items that has this place among all of them, in ascending order.

    A digit for each gap between two items tells whether they belong together. A gap that parts them makes the chunk
    ahead of it smaller, so the cuts ascend as the numbers do.
    """
    if count == 0:
        return ()
    sizes = [1]
    for together in digits(number, 2, count - 1):
        if together == 1:
            sizes[-1] += 1
        else:
            sizes.append(1)
    return tuple(sizes)


class Cuts:
    """All cuts of so many items, or the even cut alone."""

    def __init__(self, count, *, chunk=None):
        if not is_whole(count, 0, MOST_TO_CUT):
            raise BadSetting("count")
        if chunk is not None and not is_whole(chunk, 1, MOST_IN_CHUNK):
            raise BadSetting("chunk")
        self.whole = count
        self.chunk = chunk
        self.many = 1 if chunk is not None else power(2, count - 1)

    def __len__(self):
        return len(range(self.many))

    def __contains__(self, thing):
        if not isinstance(thing, tuple) or not all([is_whole(size, 1, self.whole) for size in thing]):
            return False
        if self.chunk is not None:
            return thing == even_cut(self.whole, self.chunk)
        return sum(thing) == self.whole

    def each(self):
        """All of the cuts, ascending."""
        if self.chunk is not None:
            yield even_cut(self.whole, self.chunk)
        else:
            for number in range(self.many):
                yield cut_at(number, self.whole)


class Dealings:
    """All dealings of so many chunks to so many workers."""

    def __init__(self, chunks, workers):
        if not is_whole(chunks, 0, MOST_CHUNKS):
            raise BadSetting("chunks")
        if not is_whole(workers, 1, MOST_WORKERS):
            raise BadSetting("workers")
        self.chunks = chunks
        self.workers = workers
        self.many = power(workers, chunks)
        if self.many > MOST_DEALINGS:
            raise TooMany("dealings")

    def __len__(self):
        return len(range(self.many))

    def __contains__(self, thing):
        if not isinstance(thing, tuple) or len(thing) != self.chunks:
            return False
        return all([is_whole(worker, 0, self.workers - 1) for worker in thing])

    def each(self):
        """All of the dealings, ascending."""
        for number in range(self.many):
            yield tuple(digits(number, self.workers, self.chunks))
