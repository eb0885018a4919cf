"""A desk for edits of a program, which keeps the verdicts that stay right."""

from unbrokenruns.errors import LastKind, NotAccess, NothingToUndo, NotWeak, SameName, UnknownEdit, UnknownName
from unbrokenruns.movers import check_number
from unbrokenruns.programs import Program, with_steps
from unbrokenruns.shapes import VARIABLE_WORDS
from unbrokenruns.tables import is_unbroken

WEAK_WORDS = ("read", "add")
KEEP_BROKEN = ("add", "merge", "strengthen")


def with_kind(program, name, row):
    """The program with one more kind."""
    return Program([*[(kind, program.row(kind)) for kind in program.kinds], (name, row)])


def without_kind(program, name):
    """The program without a kind."""
    # The row is asked for only because of the error that an unknown kind raises.
    program.row(name)
    if len(program) == 1:
        raise LastKind(name)
    return Program([(kind, program.row(kind)) for kind in program.kinds if kind != name])


def merged(program, variable, into):
    """The program in which the steps on a variable touch another one instead."""
    for name in (variable, into):
        if name not in program.variables:
            raise UnknownName(name)
    if variable == into:
        raise SameName(into)
    return with_steps(program, {kind: [(step[0], into) if variable in step[1:] else step
                                       for step in program.steps(kind)] for kind in program.kinds})


def step_at(program, kind, number):
    """The step of a kind with a number, any value."""
    ways = program.ways(kind)
    check_number(ways, number)
    return ways.sequence[number]


def with_step(program, kind, number, step):
    """The program in which one step of a kind is another one."""
    steps = program.steps(kind)
    steps[number] = step
    return with_steps(program, {kind: steps})


def strengthened(program, kind, number):
    """The program in which a read or an add becomes a write."""
    step = step_at(program, kind, number)
    if step[0] not in WEAK_WORDS:
        raise NotWeak(number)
    return with_step(program, kind, number, ("write", step[1]))


def silenced(program, kind, number):
    """The program in which a read, write or add becomes own."""
    if step_at(program, kind, number)[0] not in VARIABLE_WORDS:
        raise NotAccess(number)
    return with_step(program, kind, number, ("own",))


def edited(program, edit):
    """The program behind an edit other than undo."""
    word = edit[0]
    if word == "add":
        return with_kind(program, edit[1], edit[2])
    if word == "drop":
        return without_kind(program, edit[1])
    if word == "merge":
        return merged(program, edit[1], edit[2])
    if word == "strengthen":
        return strengthened(program, edit[1], edit[2])
    if word == "silence":
        return silenced(program, edit[1], edit[2])
    if word == "replace":
        return edit[1]
    raise UnknownEdit(word)


def kept_verdicts(verdicts, edit):
    """The dict of those verdicts that are right behind an edit, whatever the program is."""
    word = edit[0]
    if word in KEEP_BROKEN:
        return {key: False for key in verdicts if not verdicts[key]}
    if word == "silence":
        return {key: True for key in verdicts if verdicts[key]}
    if word == "drop":
        return {key: True for key in verdicts if verdicts[key] and key[0] != edit[1]}
    return {}


def key_of(stretch):
    """What a desk knows a stretch by."""
    return (stretch.kind, stretch.path, stretch.begin, stretch.end)


class Desk:
    """A program that is edited, and the verdicts that are known of its stretches.

    The dict of the verdicts and the tuple of what was before the edits are never changed, only replaced. So an edit
    and a trial can keep them.
    """

    def __init__(self, program):
        self._program = program
        self._verdicts = {}
        self._past = ()

    @property
    def now(self):
        """The program. To assign one is the edit replace."""
        return self._program

    @now.setter
    def now(self, value):
        self.apply(("replace", value))

    @property
    def undoable(self):
        """The number of the edits that can be undone."""
        return len(self._past)

    def __len__(self):
        return len(self._verdicts)

    def apply(self, edit):
        """Makes an edit."""
        if edit[0] == "undo":
            self._undo()
            return
        program = edited(self._program, edit)
        self._past = (*self._past, (self._program, self._verdicts))
        self._verdicts = kept_verdicts(self._verdicts, edit)
        self._program = program

    def _undo(self):
        """Undoes the last edit that is not undone yet."""
        if not self._past:
            raise NothingToUndo()
        self._program, self._verdicts = self._past[-1]
        self._past = self._past[:-1]

    def answer(self, stretch):
        """Whether a stretch of the desk's program is unbroken. The desk knows it then."""
        own = stretch.of(self._program)
        key = key_of(own)
        if key not in self._verdicts:
            verdicts = {other: self._verdicts[other] for other in self._verdicts}
            verdicts[key] = is_unbroken(own)
            self._verdicts = verdicts
        return self._verdicts[key]

    def known(self, stretch):
        """The verdict of a stretch of the desk's program; None if the desk does not know it."""
        return self._verdicts.get(key_of(stretch.of(self._program)))


class Trial:
    """A context at whose end a desk is as it was at its beginning."""

    def __init__(self, desk):
        self.desk = desk
        self._program = None
        self._verdicts = None
        self._past = None

    def __enter__(self):
        self._program = self.desk._program
        self._verdicts = self.desk._verdicts
        self._past = self.desk._past
        return self.desk

    def __exit__(self, kind, value, trace):
        desk = self.desk
        desk._program = self._program
        desk._verdicts = self._verdicts
        desk._past = self._past


def tried(desk, edits, stretches):
    """The list of the answers for some stretches behind some edits, which are made for a trial only."""
    with Trial(desk) as held:
        for edit in edits:
            held.apply(edit)
        return [held.answer(stretch) for stretch in stretches]
