"""Motions of steps, and late papers, which show without a table that a stretch is unbroken."""

from unbrokenruns.chains import conflicts
from unbrokenruns.errors import InvalidNumber, OtherStretch, UnknownName
from unbrokenruns.shapes import is_integer

AT_LATEST = ("fixed", "earlier")
AT_FIRST = ("fixed", "later")


def check_number(ways, number):
    """Raises InvalidNumber for any value that is not the number of a step on these ways."""
    if not is_integer(number) or not 0 <= number < len(ways.sequence):
        raise InvalidNumber(number)


def covers(program, variable):
    """The ascending list of the locks by which a variable is covered."""
    if variable not in program.variables:
        raise UnknownName(variable)
    holds = []
    for kind in program.kinds:
        ways = program.ways(kind)
        holds.extend([ways.holds[number + 1] for number, step in enumerate(ways.sequence) if variable in step[1:]])
    return [lock for lock in program.locks if all([lock in held for held in holds])]


def motion(program, kind, number):
    """The motion of a step: later, earlier, free or fixed."""
    ways = program.ways(kind)
    check_number(ways, number)
    step = ways.sequence[number]
    if step[0] == "take":
        return "later"
    if step[0] == "give":
        return "earlier"
    if step[0] == "own" or covers(program, step[1]):
        return "free"
    met = any([conflicts(step, other) for name in program.kinds for other in program.steps(name)])
    return "fixed" if met else "free"


def next_in_pass(stretch, number):
    """The ascending list of the steps that may come directly behind a step in the same pass of a stretch."""
    if number not in stretch:
        raise InvalidNumber(number)
    nexts = stretch.program.ways(stretch.kind).nexts[number + 1]
    return [step for step, _ in nexts if stretch.goes_on(number, step)]


def moving(stretch, motions):
    """The ascending list of the steps of a stretch that have one of some motions."""
    return [number for number in stretch.steps() if motion(stretch.program, stretch.kind, number) in motions]


class LatePaper:
    """A set of steps of a stretch, which are late. A paper never changes."""

    def __init__(self, stretch, late):
        for number in late:
            if number not in stretch:
                raise InvalidNumber(number)
        self.stretch = stretch
        self.late = tuple([number for number in stretch.steps() if number in late])

    @property
    def stands(self):
        """Whether the paper shows that its stretch is unbroken."""
        behind = [step for number in self.late for step in next_in_pass(self.stretch, number)]
        early = moving(self.stretch, AT_FIRST)
        return (all([number in self.late for number in moving(self.stretch, AT_LATEST)])
                and all([step in self.late and step not in early for step in behind]))

    def __len__(self):
        return len(self.late)

    def __iter__(self):
        return iter(self.late)

    def __contains__(self, value):
        return is_integer(value) and value in self.late

    def __eq__(self, other):
        return (isinstance(other, LatePaper) and self.stretch == other.stretch and self.late == other.late
                and self.stretch.program == other.stretch.program)

    def __or__(self, other):
        if not isinstance(other, LatePaper):
            return NotImplemented
        self._check_stretch(other)
        return LatePaper(self.stretch, [*self.late, *other.late])

    def __and__(self, other):
        if not isinstance(other, LatePaper):
            return NotImplemented
        self._check_stretch(other)
        return LatePaper(self.stretch, [number for number in self.late if number in other.late])

    def _check_stretch(self, other):
        """Raises OtherStretch for a paper of another stretch or of a stretch of another program."""
        if self.stretch != other.stretch or self.stretch.program != other.stretch.program:
            raise OtherStretch()

    def cut(self, inner):
        """The paper of a stretch within this one's, with the late steps that are in it."""
        if self.stretch.program != inner.program or not inner.within(self.stretch):
            raise OtherStretch()
        return LatePaper(inner, [number for number in self.late if number in inner])

    @classmethod
    def least(cls, stretch):
        """The paper with the fewest late steps that stands, or None."""
        late = moving(stretch, AT_LATEST)
        at = 0
        while at < len(late):
            behind = next_in_pass(stretch, late[at])
            late.extend([step for step in behind if step not in late])
            at += 1
        paper = cls(stretch, late)
        return paper if paper.stands else None
