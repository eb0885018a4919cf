"""Stretches: neighbouring items of a row of a kind."""

from unbrokenruns.errors import InvalidStretch
from unbrokenruns.shapes import inner_rows, is_integer, row_steps


def row_at(row, path):
    """The row to which a path, any value, leads from a row; None if it leads to none."""
    if not isinstance(path, tuple):
        return None
    for pair in path:
        if not isinstance(pair, tuple) or len(pair) != 2:
            return None
        index, at = pair
        if not is_integer(index) or not is_integer(at) or not 0 <= index < len(row):
            return None
        inners = inner_rows(row[index])
        if not 0 <= at < len(inners):
            return None
        row = inners[at]
    return row


def leads_into_repeat(row, path):
    """Whether a path leads from a row into the row of a repeat, or further."""
    for index, at in path:
        if row[index][0] == "repeat":
            return True
        row = inner_rows(row[index])[at]
    return False


def steps_before(row, path, begin):
    """How many steps are written before the item at begin of the row at a path."""
    many = 0
    for index, at in path:
        many += len(row_steps(row[:index]))
        inners = inner_rows(row[index])
        many += sum([len(row_steps(inner)) for inner in inners[:at]])
        row = inners[at]
    return many + len(row_steps(row[:begin]))


def paths_from(row, path):
    """The ascending list of a path and of the paths of all rows within its row."""
    found = [path]
    for index, item in enumerate(row):
        for at, inner in enumerate(inner_rows(item)):
            found.extend(paths_from(inner, (*path, (index, at))))
    return found


def rows(program, kind):
    """The ascending list of the paths of all rows of a kind."""
    return paths_from(program.row(kind), ())


class Stretch:
    """The items from begin to end - 1 of the row at a path. A stretch never changes."""

    def __init__(self, program, kind, path, begin, end):
        whole = program.row(kind)
        row = row_at(whole, path)
        if row is None or not is_integer(begin) or not is_integer(end) or not 0 <= begin < end <= len(row):
            raise InvalidStretch(path, begin, end)
        first = steps_before(whole, path, begin)
        self.program = program
        self.kind = kind
        self.path = path
        self.begin = begin
        self.end = end
        self.repeated = leads_into_repeat(whole, path)
        # Steps are numbered as they are written, so those of neighbouring items have neighbouring numbers.
        self._numbers = tuple(range(first, first + len(row_steps(row[begin:end]))))

    def steps(self):
        """The ascending list of the numbers of the steps."""
        return list(self._numbers)

    def __len__(self):
        return len(self._numbers)

    def __contains__(self, value):
        return is_integer(value) and value in self._numbers

    def __eq__(self, other):
        return (isinstance(other, Stretch) and self.kind == other.kind and self.path == other.path
                and self.begin == other.begin and self.end == other.end)

    def __lt__(self, other):
        if not isinstance(other, Stretch):
            return NotImplemented
        return (self.kind, self.path, self.begin, self.end) < (other.kind, other.path, other.begin, other.end)

    def __and__(self, other):
        if not isinstance(other, Stretch):
            return NotImplemented
        return self.common(other)

    def goes_on(self, place, number):
        """Whether a thread that performs a step directly behind a place goes on with the same pass."""
        if place not in self or number not in self:
            return False
        return not self.repeated or (number, True) not in self.program.ways(self.kind).nexts[place + 1]

    def within(self, other):
        """Whether the stretch lies within another one."""
        if self.kind != other.kind:
            return False
        if self.path == other.path:
            return other.begin <= self.begin and self.end <= other.end
        depth = len(other.path)
        if len(self.path) <= depth or self.path[:depth] != other.path:
            return False
        return other.begin <= self.path[depth][0] < other.end

    def common(self, other):
        """The greatest stretch that lies within both, or None."""
        if self.within(other):
            return self
        if other.within(self):
            return other
        if self.kind != other.kind or self.path != other.path:
            return None
        begin = self.begin if self.begin > other.begin else other.begin
        end = self.end if self.end < other.end else other.end
        return Stretch(self.program, self.kind, self.path, begin, end) if begin < end else None

    def of(self, program):
        """The stretch with the same kind, path, begin and end of another program."""
        return Stretch(program, self.kind, self.path, self.begin, self.end)


def all_stretches(program, kind):
    """Yields all stretches of a kind, in ascending order."""
    whole = program.row(kind)
    for path in rows(program, kind):
        many = len(row_at(whole, path))
        for begin in range(many):
            for end in range(begin + 1, many + 1):
                yield Stretch(program, kind, path, begin, end)
