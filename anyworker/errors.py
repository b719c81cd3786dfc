"""The errors of the program: each keeps the one thing that it is about."""


class WorkError(ValueError):
    """Any error of the program."""

    def __init__(self, value):
        self.value = value


class InvalidName(WorkError):
    """A name that is not one to eight letters from a to z."""


class InvalidSize(WorkError):
    """A size, or a number of arguments, below 1."""


class DoubleName(WorkError):
    """A name that stood before."""


class UnknownName(WorkError):
    """A name that is none of those that may stand here."""


class UnknownKind(WorkError):
    """A name that no kind of requests has."""


class InvalidArgument(WorkError):
    """An argument that a kind of requests does not have."""


class InvalidWorker(WorkError):
    """A negative number of a worker."""


class InvalidDivisor(WorkError):
    """A divisor below 1."""


class UnlikeKinds(WorkError):
    """The kinds of two services that should be alike."""


class UnlikeCells(WorkError):
    """Cells of two services that should be alike."""


class NotFree(WorkError):
    """The first row that does not hold, of a service that should be free."""


class InvalidValues(WorkError):
    """Values that the own cells of a worker cannot hold."""


class WrongWorker(WorkError):
    """A worker that may not serve a bound request."""


class NothingToUndo(WorkError):
    """Nothing was done that could be taken back."""


class Unreadable(WorkError):
    """A text that nothing has."""
