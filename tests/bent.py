"""Values that are bent in one place: what is near a right certificate, and is none."""


def bent(value):
    """Values that differ from this one, of tuples, strings, integers and truth values, in one place."""
    if isinstance(value, tuple):
        yield list(value)
        yield (*value, None)
        yield (value,)
        for at, part in enumerate(value):
            yield value[:at] + value[at + 1:]
            yield value[:at] + (part,) + value[at:]
            if value[at + 1:] and value[at + 1] != part:
                yield value[:at] + (value[at + 1], part) + value[at + 2:]
            for other in bent(part):
                yield value[:at] + (other,) + value[at + 1:]
    elif value is True or value is False:
        yield from [not value, int(value), None, str(value)]
    elif isinstance(value, int):
        yield from [value + 1, value - 1, -value - 9, str(value), None, (value,), 10 ** 29]
        if value in (0, 1):
            yield bool(value)
    else:
        yield from [value + "a", "b" + value, value[:-1] + "c", value.upper() + " "]
        yield from [None, 0, False, (value,), list(value)]
        yield from [other for other in ("", "a", "b", "box", "name", "alike", "parted") if other != value]
