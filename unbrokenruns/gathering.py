"""Exchanges of neighbouring events that bring a pass together."""

from unbrokenruns.chains import acts, check_pass, check_position, hanging, is_position, ring, tied
from unbrokenruns.errors import Broken, Dependent, InvalidPosition
from unbrokenruns.runs import Run


def exchanged(run, position):
    """The run in which the events at a position, any value, and at the next one are exchanged."""
    check_position(run, position)
    if position == len(run) - 1:
        raise InvalidPosition(position)
    doings = acts(run)
    if tied(doings[position], doings[position + 1]):
        raise Dependent(position)
    events = run.events
    events[position], events[position + 1] = events[position + 1], events[position]
    return Run(run.program, run.threads, events)


def gathered_order(run, passing):
    """The list of the positions in the order in which their events stand in the gathered run."""
    found = ring(run, passing)
    if found is not None:
        raise Broken(found)
    behind = hanging(run, passing[1])
    before = [at for at in range(len(run)) if at not in behind]
    return before + passing[1] + [at for at in behind if at not in passing[1]]


def gathered(run, passing):
    """The run in which the events of a pass stand one directly behind the other."""
    events = run.events
    return Run(run.program, run.threads, [events[at] for at in gathered_order(run, passing)])


def exchanges(run, passing):
    """A shortest list of positions whose exchanges, one after the other, lead to the gathered run."""
    wanted = {at: rank for rank, at in enumerate(gathered_order(run, passing))}
    ranks = []
    found = []
    for at in range(len(run)):
        # Only neighbours in the wrong order are exchanged, and each such pair once: fewer cannot be enough. In both
        # orders an event stands behind those on which it depends, so such neighbours do not depend on each other.
        place = at
        while place > 0 and ranks[place - 1] > wanted[at]:
            place -= 1
            found.append(place)
        ranks.insert(place, wanted[at])
    return found


def is_gathering(run, passing, value):
    """Whether any value is a list of positions whose exchanges bring a pass together."""
    check_pass(run, passing)
    if not isinstance(value, list):
        return False
    doings = acts(run)
    order = list(range(len(run)))
    for at in value:
        if not is_position(run, at) or at == len(run) - 1 or tied(doings[order[at]], doings[order[at + 1]]):
            return False
        order[at], order[at + 1] = order[at + 1], order[at]
    first = order.index(passing[1][0])
    return order[first:first + len(passing[1])] == passing[1]
