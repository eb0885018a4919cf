"""Places of a thread: what may come next, what is held, and how a thread may begin."""

from unbrokenruns.errors import InvalidNumber, InvalidPlace
from unbrokenruns.shapes import is_integer

MOST_STEPS = 8


def check_place(ways, place):
    """Raises InvalidPlace for any value that is not a place on these ways."""
    if not is_integer(place) or not -1 <= place < len(ways.sequence):
        raise InvalidPlace(place)


def follows(program, kind, place):
    """The ascending list of the tuples (step, around) of the steps that may come next."""
    ways = program.ways(kind)
    check_place(ways, place)
    return list(ways.nexts[place + 1])


def held(program, kind, place):
    """The ascending list of the locks that are held at a place."""
    ways = program.ways(kind)
    check_place(ways, place)
    return list(ways.holds[place + 1])


def walks(program, kind, *, most=4):
    """Yields, in ascending order, all lists of at most so many steps that a thread may begin with."""
    ways = program.ways(kind)
    if not is_integer(most) or not 0 <= most <= MOST_STEPS:
        raise InvalidNumber(most)
    waiting = [()]
    while waiting:
        walk = waiting.pop()
        yield list(walk)
        if len(walk) < most:
            place = walk[-1] if walk else -1
            # The last one in the list comes out first, so the smallest step has to go in last.
            for step, _ in reversed(ways.nexts[place + 1]):
                waiting.append((*walk, step))
