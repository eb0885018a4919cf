"""Tables: lists of states that show that a stretch is unbroken."""

from unbrokenruns.search import broken_moves
from unbrokenruns.states import Scene


def is_unbroken(stretch):
    """Whether a stretch is unbroken."""
    return broken_moves(Scene(stretch)) is None


def table(stretch):
    """The ascending table with the fewest states; None if the stretch is broken."""
    if not is_unbroken(stretch):
        return None
    scene = Scene(stretch)
    seen = {scene.begin: True}
    waiting = [scene.begin]
    while waiting:
        state = waiting.pop()
        for behind in scene.behind(state):
            if behind not in seen:
                seen[behind] = True
                waiting.append(behind)
    return scene.ascending(list(seen))


def is_table(stretch, value):
    """Whether any value is a table of a stretch."""
    if not isinstance(value, list):
        return False
    scene = Scene(stretch)
    states = [scene.read(state) for state in value]
    if None in states or scene.begin not in states:
        return False
    known = {state: True for state in states}
    for state in known:
        if scene.breaks(state) or not all([behind in known for behind in scene.behind(state)]):
            return False
    return True
