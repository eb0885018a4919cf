"""Programs of threads that share variables and locks."""

from unbrokenruns.errors import InvalidProgram, UnknownKind
from unbrokenruns.shapes import LOCK_WORDS, VARIABLE_WORDS, Ways, is_kind, locks_nest, refilled, row_steps


def check_kind(kinds, index):
    """Raises the first fault of the kind at an index; the kinds before it have none."""
    if not is_kind(kinds[index]):
        raise InvalidProgram(index, "form")
    name, row = kinds[index]
    if name in [kind[0] for kind in kinds[:index]]:
        raise InvalidProgram(index, "name")
    if not locks_nest(row, ()):
        raise InvalidProgram(index, "lock")


def touched(kinds, words):
    """The ascending tuple of the objects that the steps with these words touch."""
    found = []
    for _, row in kinds:
        for step in row_steps(row):
            if step[0] in words and step[1] not in found:
                found.append(step[1])
    return tuple(sorted(found, key=str))


class Program:
    """Some kinds of threads. A program never changes."""

    MAX_KINDS = 4
    MAX_VARIABLES = 4
    MAX_LOCKS = 3

    def __init__(self, kinds):
        if not isinstance(kinds, (list, tuple)) or not 1 <= len(kinds) <= Program.MAX_KINDS:
            raise InvalidProgram(None, "form")
        listed = tuple(kinds)
        for index in range(len(listed)):
            check_kind(listed, index)
        variables = touched(listed, VARIABLE_WORDS)
        locks = touched(listed, LOCK_WORDS)
        if any([name in locks for name in variables]):
            raise InvalidProgram(None, "mixed")
        if len(variables) > Program.MAX_VARIABLES or len(locks) > Program.MAX_LOCKS:
            raise InvalidProgram(None, "many")
        self._kinds = listed
        self._variables = variables
        self._locks = locks
        self._ways = {name: Ways(row) for name, row in listed}

    @property
    def kinds(self):
        """The list of the names of the kinds, in order."""
        return [kind[0] for kind in self._kinds]

    @property
    def variables(self):
        """The ascending list of the variables."""
        return list(self._variables)

    @property
    def locks(self):
        """The ascending list of the locks."""
        return list(self._locks)

    def __len__(self):
        return len(self._kinds)

    def __contains__(self, value):
        return isinstance(value, str) and value in self._ways

    def __eq__(self, other):
        return isinstance(other, Program) and self._kinds == other._kinds

    def ways(self, kind):
        """The ways of a thread of a kind, for the other modules of the package."""
        if kind not in self:
            raise UnknownKind(kind)
        return self._ways[kind]

    def row(self, kind):
        """The row of a kind."""
        return self.ways(kind).body

    def steps(self, kind):
        """The list of the steps of a kind, by their numbers."""
        return list(self.ways(kind).sequence)


def with_steps(program, table):
    """The program with other steps for some kinds, which a dict from kinds to lists of steps tells."""
    return Program([(kind, refilled(program.row(kind), table.get(kind, program.steps(kind))))
                    for kind in program.kinds])
