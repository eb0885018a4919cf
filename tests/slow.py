"""Slow second answers about runs, made from the definitions [6] to [10] by trying everything."""

import functools

from tests.models import row_tree, size, traces


def touched(step):
    return step[1] if len(step) > 1 else None


def in_conflict(one, other):
    if touched(one) is None or touched(one) != touched(other):
        return False
    words = {one[0], other[0]}
    return words != {"read"} and words != {"add"}


@functools.lru_cache(maxsize=None)
def coming(row):
    """A dict from each place to the dict from each step that may come next to whether the thread goes around."""
    found = {place: {} for place in range(-1, size(row))}
    for trace in traces(row, 0, 2):
        place = -1
        for step, around in trace:
            found[place][step] = around
            place = step
    return found


@functools.lru_cache(maxsize=None)
def flat(row):
    """The steps of a row."""
    found = []
    for item in row:
        if item[0] in ("choose", "repeat"):
            found.extend(step for inner in item[1:] for step in flat(inner))
        else:
            found.append(item)
    return found


@functools.lru_cache(maxsize=None)
def holding(row):
    """A dict from each place to the set of the locks that are held there."""
    found = {-1: frozenset()}
    for trace in traces(row, 0, 1):
        locks = set()
        for number, _ in trace:
            word, name = (*flat(row)[number], None)[:2]
            if word == "take":
                locks.add(name)
            if word == "give":
                locks.remove(name)
            found[number] = frozenset(locks)
    return found


def repeats_around(row, path):
    """How many of the rows on the way to the row at a path, itself included, are those of a repeat."""
    many = 0
    for index, at in path:
        many += row[index][0] == "repeat"
        row = row[index][1 + at]
    return many


@functools.lru_cache(maxsize=None)
def repeat_of(row):
    """A dict from each step within a repeat to the path of the row of this repeat."""
    tree = {path: (items, bounds) for path, items, bounds in row_tree(row)}
    found = {}
    for path, (items, bounds) in tree.items():
        for index, item in enumerate(items):
            if item[0] == "repeat":
                found.update({step: (*path, (index, 0)) for step in range(*bounds[index])})
    return found


class Replay:
    """The events of some threads, played one after the other; `fault` is the first event that is not possible."""

    def __init__(self, program, threads, events):
        self.rows = [program.row(kind) for kind in threads]
        self.places = [-1] * len(threads)
        self.fault = None
        for event in events:
            if self.fault is None:
                if event in self.possible():
                    self.places[event[0]] = event[1]
                else:
                    self.fault = event

    def holders(self):
        return {lock: thread for thread, row in enumerate(self.rows) for lock in holding(row)[self.places[thread]]}

    def possible(self):
        """The list of the events that are possible next, in ascending order."""
        found = []
        for thread, row in enumerate(self.rows):
            for step in sorted(coming(row)[self.places[thread]]):
                word, name = (*flat(row)[step], None)[:2]
                if word != "take" or name not in self.holders():
                    found.append((thread, step))
        return found


def event_lists(program, threads, most):
    """The ascending list of the lists of events of all runs with at most so many events."""
    latest = [[]]
    found = [[]]
    for _ in range(most):
        latest = [events + [event] for events in latest for event in Replay(program, threads, events).possible()]
        found.extend(latest)
    return sorted(found)


def doings(run):
    """A list with, for each position, the thread and the step as it is written."""
    return [(thread, flat(run.program.row(run.threads[thread]))[step]) for thread, step in run.events]


def directly(run, first, second):
    one, other = doings(run)[first], doings(run)[second]
    return first != second and (one[0] == other[0] or in_conflict(one[1], other[1]))


def tie_table(run):
    """A dict from each position to the list of those behind it that depend directly on it."""
    done = doings(run)
    return {first: [second for second in range(first + 1, len(done))
                    if done[first][0] == done[second][0] or in_conflict(done[first][1], done[second][1])]
            for first in range(len(done))}


def chains_from(table, first):
    """All chains that begin at a position."""
    found = [[first]]
    for second in table[first]:
        found.extend([first, *rest] for rest in chains_from(table, second))
    return found


def all_chains(run, first, second):
    return [found for found in chains_from(tie_table(run), first) if found[-1] == second]


def smallest(lists):
    """The smallest one among the shortest lists, or None."""
    return min(lists, key=lambda found: (len(found), found), default=None)


def all_rings(run, positions):
    table = tie_table(run)
    return [found for first in positions for found in chains_from(table, first)
            if len(found) >= 3 and found[-1] in positions and not set(found[1:-1]) & set(positions)]


def all_passes(run, stretch):
    """The passes of a stretch: the longest lists of consecutive events that go on with the same pass."""
    found = []
    row = run.program.row(stretch.kind)
    inside = set(stretch.steps())
    for thread, kind in enumerate(run.threads):
        own = [(position, step) for position, (one, step) in enumerate(run.events) if one == thread]
        latest = None
        for index, (position, step) in enumerate(own):
            if kind != stretch.kind or step not in inside:
                latest = None
                continue
            around = index > 0 and coming(row)[own[index - 1][1]][step]
            if latest is None or (around and repeats_around(row, stretch.path)):
                latest = []
                found.append((thread, latest))
            latest.append(position)
    return sorted(found, key=lambda one: one[1])


def slices(run):
    """All tuples that may be meant by a parameter passing."""
    found = []
    for thread in range(len(run.threads)):
        own = [position for position, event in enumerate(run.events) if event[0] == thread]
        found.extend((thread, own[low:high]) for low in range(len(own)) for high in range(low + 1, len(own) + 1))
    return found


def orders(run):
    """A dict from each order of the positions that exchanges lead to, to the number of exchanges that are needed."""
    done = doings(run)
    start = tuple(range(len(done)))
    found = {start: 0}
    waiting = [start]
    for order in waiting:
        for at in range(len(order) - 1):
            one, other = done[order[at]], done[order[at + 1]]
            if one[0] != other[0] and not in_conflict(one[1], other[1]):
                after = (*order[:at], order[at + 1], order[at], *order[at + 2:])
                if after not in found:
                    found[after] = found[order] + 1
                    waiting.append(after)
    return found


def stand_together(order, positions):
    first = order.index(positions[0])
    return list(order[first:first + len(positions)]) == positions
