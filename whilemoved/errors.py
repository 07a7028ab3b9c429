"""The errors of the package.

None has words of its own: Python keeps what an error is made from, so it can be copied like any value.
"""


class MoveError(ValueError):
    """What all errors of the package have in common; it is raised nowhere itself."""


class Wrong(MoveError):
    """The argument with this place, counted from 0, is not as described."""

    def __init__(self, place):
        self.place = place


class NoText(MoveError):
    """The line with this index is bad, or is lacking."""

    def __init__(self, line):
        self.line = line


class CannotDo(MoveError):
    """The stretch with this index cannot be done where it comes."""

    def __init__(self, index):
        self.index = index


class NotSafe(MoveError):
    """The stretch with this index is not safe where it comes."""

    def __init__(self, index):
        self.index = index


class NotDone(MoveError):
    """This place does not have yet what it is to have."""

    def __init__(self, place):
        self.place = place


class NoPlace(MoveError):
    """There is no such place for what was asked."""

    def __init__(self, place):
        self.place = place


class NoSource(MoveError):
    """Nothing tells what is wanted at this place."""

    def __init__(self, place):
        self.place = place


class NotEven(MoveError):
    """The task is not even."""

    def __init__(self):
        pass


class NeedsMore(MoveError):
    """This value has a need above 1."""

    def __init__(self, value):
        self.value = value


class NotFull(MoveError):
    """The linear task is not full."""

    def __init__(self):
        pass


class NoNew(MoveError):
    """This value cannot get a new content."""

    def __init__(self, value):
        self.value = value


class NotRight(MoveError):
    """This value would have a room below 0."""

    def __init__(self, value):
        self.value = value


class NoPromise(MoveError):
    """This is no promise."""

    def __init__(self, promise):
        self.promise = promise


class NoIndex(MoveError):
    """There is no promise with this index."""

    def __init__(self, index):
        self.index = index


class Broken(MoveError):
    """This promise would not be kept."""

    def __init__(self, promise):
        self.promise = promise


class TooMany(MoveError):
    """There are as many places as there may be."""

    def __init__(self, most):
        self.most = most


class Nothing(MoveError):
    """There is nothing to do this with."""

    def __init__(self):
        pass
