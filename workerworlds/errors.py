"""All errors of the package. Each keeps, as its fields, what it is made with."""


class WorkerworldsError(ValueError):
    """Above the errors that refuse a value."""


class BadBox(WorkerworldsError):
    """These are no contents of a box, or this is no box."""

    def __init__(self, contents):
        self.contents = contents


class BadName(WorkerworldsError):
    """This is no name."""

    def __init__(self, name):
        self.name = name


class BadWorld(WorkerworldsError):
    """These are no rows of a world: the entry at this index is wrong, or all (-1)."""

    def __init__(self, at):
        self.at = at


class BadRow(WorkerworldsError):
    """This is no row that the caller can run."""

    def __init__(self, row):
        self.row = row


class BadProgram(WorkerworldsError):
    """This part of a program is wrong at this index, or as a whole (-1)."""

    def __init__(self, part, at):
        self.part = part
        self.at = at


class BadText(WorkerworldsError):
    """This text is no program: the line at this index is wrong, or all (-1)."""

    def __init__(self, at):
        self.at = at


class TooMany(WorkerworldsError):
    """There are too many of these."""

    def __init__(self, what):
        self.what = what


class BadSetting(WorkerworldsError):
    """The setting of this name is wrong."""

    def __init__(self, what):
        self.what = what


class BadItem(WorkerworldsError):
    """The item at this index is wrong, or the whole list (-1)."""

    def __init__(self, at):
        self.at = at


class BadCut(WorkerworldsError):
    """The cut is wrong at this index, or as a whole (-1)."""

    def __init__(self, at):
        self.at = at


class BadDealing(WorkerworldsError):
    """The dealing is wrong at this index, or as a whole (-1)."""

    def __init__(self, at):
        self.at = at


class NoName(LookupError):
    """This name is not bound."""

    def __init__(self, name):
        self.name = name


class NoWorker(LookupError):
    """There is no worker of this number."""

    def __init__(self, number):
        self.number = number


class TaskFailed(RuntimeError):
    """A task failed: at which item, what it told, and its cause."""

    def __init__(self, at, told, cause):
        self.at = at
        self.told = told
        self.cause = cause


class CannotCross(RuntimeError):
    """A box has a bound mark: at which item, and what could not cross."""

    def __init__(self, at, what):
        self.at = at
        self.what = what


class Closed(RuntimeError):
    """The pool is closed."""
