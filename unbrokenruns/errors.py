"""The errors of the package: each one stores its arguments as they are."""


class RunsError(ValueError):
    """What all errors but UnknownKind have in common."""


class InvalidProgram(RunsError):
    """A value that is not a program, with the index of a wrong kind or None."""

    def __init__(self, index, why):
        self.index = index
        self.why = why


class InvalidPlace(RunsError):
    """A value that is not a place of a kind."""

    def __init__(self, value):
        self.value = value


class InvalidNumber(RunsError):
    """A value that is not a number as it is asked for."""

    def __init__(self, value):
        self.value = value


class InvalidStretch(RunsError):
    """Three values that do not tell a stretch of a kind."""

    def __init__(self, path, begin, end):
        self.path = path
        self.begin = begin
        self.end = end


class InvalidThreads(RunsError):
    """A value that is not a list of kinds, with the index of a wrong item or None."""

    def __init__(self, index):
        self.index = index


class InvalidThread(RunsError):
    """A value that is not the number of a thread."""

    def __init__(self, value):
        self.value = value


class NotPossible(RunsError):
    """A value that is not an event that is possible in its turn."""

    def __init__(self, event):
        self.event = event


class InvalidPosition(RunsError):
    """A value that is not a position of a run."""

    def __init__(self, value):
        self.value = value


class InvalidPass(RunsError):
    """A value that does not tell consecutive events of one thread."""

    def __init__(self, value):
        self.value = value


class Dependent(RunsError):
    """The event behind this position depends directly on the event at it."""

    def __init__(self, position):
        self.position = position


class Broken(RunsError):
    """A pass cannot be brought together, because it has this ring."""

    def __init__(self, ring):
        self.ring = ring


class InvalidState(RunsError):
    """A value that is not a state of a stretch."""

    def __init__(self, value):
        self.value = value


class UnknownName(RunsError):
    """A value that is not the name that is asked for."""

    def __init__(self, name):
        self.name = name


class OtherStretch(RunsError):
    """Two papers, or a paper and a stretch, do not belong together."""

    def __init__(self):
        """Without this, the one of ValueError would take any arguments."""


class OverlappingStretches(RunsError):
    """The stretches with these two indices have a common step."""

    def __init__(self, one, other):
        self.one = one
        self.other = other


class TooMany(RunsError):
    """There are more of something than a function takes."""

    def __init__(self, what, count):
        self.what = what
        self.count = count


class NotBalanced(RunsError):
    """The guard with this index takes or gives a lock without its counterpart."""

    def __init__(self, index):
        self.index = index


class NameTaken(RunsError):
    """The name of a new lock is in use."""

    def __init__(self, name):
        self.name = name


class UnknownEdit(RunsError):
    """No edit begins with this word."""

    def __init__(self, word):
        self.word = word


class LastKind(RunsError):
    """The only kind of a program cannot be removed."""

    def __init__(self, kind):
        self.kind = kind


class SameName(RunsError):
    """A variable cannot be merged into itself."""

    def __init__(self, name):
        self.name = name


class NotWeak(RunsError):
    """The step with this number is neither a read nor an add."""

    def __init__(self, number):
        self.number = number


class NotAccess(RunsError):
    """The step with this number is not a read, write or add."""

    def __init__(self, number):
        self.number = number


class NothingToUndo(RunsError):
    """There is no edit that is not undone yet."""

    def __init__(self):
        """Without this, the one of ValueError would take any arguments."""


class BadText(RunsError):
    """The line with this number has another form."""

    def __init__(self, line):
        self.line = line


class UnknownKind(LookupError):
    """A value that is not the name of a kind of a program."""

    def __init__(self, kind):
        self.kind = kind
