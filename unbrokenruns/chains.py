"""What depends on what in a run: chains, passes and rings."""

from unbrokenruns.errors import InvalidPass, InvalidPosition
from unbrokenruns.shapes import is_integer


def conflicts(one, other):
    """Whether two steps conflict."""
    if len(one) == 1 or len(other) == 1 or one[1] != other[1]:
        return False
    return one[0] != other[0] or one[0] not in ("read", "add")


def acts(run):
    """The list with, for each position, the tuple (thread, step as it is written)."""
    return [(event[0], run.step(position)) for position, event in enumerate(run.events)]


def tied(one, other):
    """Whether, of two different acts of a run, the later one depends directly on the earlier one."""
    return one[0] == other[0] or conflicts(one[1], other[1])


def is_position(run, value):
    """Whether any value is a position of a run."""
    return is_integer(value) and 0 <= value < len(run)


def check_position(run, value):
    """Raises InvalidPosition for any value that is not a position of a run."""
    if not is_position(run, value):
        raise InvalidPosition(value)


def depends(run, first, second):
    """Whether the later one of the events at two positions depends directly on the earlier one."""
    check_position(run, first)
    check_position(run, second)
    doings = acts(run)
    return first != second and tied(doings[first], doings[second])


def way_to_go(doings, far, at):
    """How many positions a shortest chain to an end has behind a position; far tells it for those behind it."""
    best = None
    for later in range(at + 1, len(doings)):
        if far[later] is not None and (best is None or far[later] + 1 < best) and tied(doings[at], doings[later]):
            best = far[later] + 1
    return best


def ways_to_go(doings, ends):
    """The list with, for each position, how many positions a shortest chain to one of the ends has behind it.

    It is None for a position without such a chain. A chain stops at the first end that it comes to.
    """
    far = [None] * len(doings)
    for at in reversed(range(len(doings))):
        far[at] = 0 if at in ends else way_to_go(doings, far, at)
    return far


def nearest(doings, far, at):
    """The smallest chain among the shortest ones from a position to an end; far is what ways_to_go tells."""
    found = [at]
    for later in range(at + 1, len(doings)):
        if far[later] == far[found[-1]] - 1 and tied(doings[found[-1]], doings[later]):
            found.append(later)
    return found


def chain(run, first, second):
    """The smallest list among the shortest chains from one position to another one, or None."""
    check_position(run, first)
    check_position(run, second)
    doings = acts(run)
    far = ways_to_go(doings, [second])
    return None if far[first] is None else nearest(doings, far, first)


def hanging(run, positions):
    """The ascending list of these positions and of those whose events hang on one of their events."""
    doings = acts(run)
    found = []
    for at, doing in enumerate(doings):
        if at in positions or any([tied(doings[before], doing) for before in found]):
            found.append(at)
    return found


def passes(run, stretch):
    """The list of the passes of a stretch as tuples (thread, positions), by their first positions."""
    kinds = run.threads
    places = [-1] * len(kinds)
    latest = {}
    found = []
    for position, (thread, number) in enumerate(run.events):
        if kinds[thread] == stretch.kind and number in stretch:
            if not stretch.goes_on(places[thread], number):
                latest[thread] = []
                found.append((thread, latest[thread]))
            latest[thread].append(position)
        places[thread] = number
    return found


def is_pass(run, value):
    """Whether any value is a tuple of a thread and of the positions of consecutive events of it."""
    if not isinstance(value, tuple) or len(value) != 2:
        return False
    thread, positions = value
    if not is_integer(thread) or not isinstance(positions, list) or not positions:
        return False
    if not all([is_position(run, position) for position in positions]):
        return False
    own = [position for position, event in enumerate(run.events)
           if event[0] == thread and positions[0] <= position <= positions[-1]]
    return positions == own


def check_pass(run, passing):
    """Raises InvalidPass for any value that is not meant by the parameter passing."""
    if not is_pass(run, passing):
        raise InvalidPass(passing)


def ring(run, passing):
    """The smallest list among the shortest rings of a pass, or None."""
    check_pass(run, passing)
    doings = acts(run)
    far = ways_to_go(doings, passing[1])
    best = None
    for first in passing[1]:
        for at in range(first + 1, len(doings)):
            if far[at] and (best is None or far[at] < far[best[1]]) and tied(doings[first], doings[at]):
                best = (first, at)
    return None if best is None else [best[0], *nearest(doings, far, best[1])]


def is_ring(run, passing, value):
    """Whether any value is a ring of a pass."""
    check_pass(run, passing)
    if not isinstance(value, list) or len(value) < 3 or not all([is_position(run, at) for at in value]):
        return False
    if value[0] not in passing[1] or value[-1] not in passing[1]:
        return False
    if any([at in passing[1] for at in value[1:-1]]):
        return False
    doings = acts(run)
    return all([one < other and tied(doings[one], doings[other]) for one, other in zip(value, value[1:])])
