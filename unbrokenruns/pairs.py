"""Bad pairs of steps, and the stretches in which none lies."""

from unbrokenruns.search import DONE, Hunt, Stage
from unbrokenruns.states import Cast
from unbrokenruns.stretches import all_stretches


def pair_edges(cast, kind, first):
    """The edges of a thread of a kind that performs the step first.

    The mark is 0 before that, and then tells whether the thread has gone around a repeat that contains both this step
    and the one at which it is: 2 if it has, 1 if not.
    """
    ways = cast.program.ways(kind)
    begin = cast.seat((kind, -1))
    loop = ways.loops[first]
    edges = {}
    for place, nexts in enumerate(ways.nexts):
        for mark in range(3):
            found = []
            for number, around in nexts:
                both = loop is not None and ways.loops[number] == loop
                if mark == 0:
                    found.append((begin + 1 + number, 0))
                if mark != 0 or number == first:
                    found.append((begin + 1 + number, 2 if both and (mark == 2 or (mark == 1 and around)) else 1))
            edges[(begin + place, mark)] = found
    return edges


def closing_nodes(hunt, kind):
    """The dict whose keys are the nodes to which a thread of a kind comes behind a closed chain."""
    waiting = hunt.stage.starts(kind)
    seen = {state: True for state in waiting}
    found = {}
    while waiting:
        state = waiting.pop()
        for move in hunt.moves(state):
            if move[0] not in seen:
                seen[move[0]] = True
                waiting.append(move[0])
                if move[0][2] == DONE:
                    found[move[0][0]] = True
    return found


def bad_pairs(program, kind):
    """The ascending list of the bad pairs of a kind."""
    numbers = range(len(program.steps(kind)))
    cast = Cast(program)
    stage = Stage(cast)
    begin = cast.seat((kind, -1)) + 1
    found = []
    for first in numbers:
        nodes = closing_nodes(Hunt(stage, pair_edges(cast, kind, first)), kind)
        found.extend([(first, second, mark == 2) for second in numbers for mark in (1, 2)
                      if (begin + second, mark) in nodes])
    return found


def holds(stretch, pair):
    """Whether a tuple (first, second, around) lies in a stretch."""
    first, second, around = pair
    return first in stretch and second in stretch and not (around and stretch.repeated)


def unbroken_stretches(program, kind):
    """Yields the unbroken stretches of a kind, in ascending order."""
    bad = bad_pairs(program, kind)
    for stretch in all_stretches(program, kind):
        if not any([holds(stretch, pair) for pair in bad]):
            yield stretch


def largest_unbroken(program, kind):
    """The ascending list of the unbroken stretches of a kind that lie within no other one."""
    found = list(unbroken_stretches(program, kind))
    return [inner for inner in found if not any([inner != outer and inner.within(outer) for outer in found])]
