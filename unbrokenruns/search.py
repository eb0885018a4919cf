"""Runs with the fewest threads in which a chain leaves a watched thread and comes back to it.

Of a thread that is no part of a chain, only its locks matter. So it can wait with its steps until the next `give` or
the next step that is part of the chain, and do them at one go then: a leap. And all that it does until it holds no
lock for the last time before it can come first of all. A thread in the chain has to be there only from its first to
its last event in the chain, as the chain could otherwise be shorter. So each further thread is a new one, and it can
give its locks as soon as it has left the chain, if it needs no other lock for this.
"""

from unbrokenruns.runs import Run
from unbrokenruns.states import NO_CARRIER, Scene, joined

DONE = -1


def most_others(program):
    """How many other threads are enough to break each broken stretch of a program."""
    return max(2, 2 * len(program.variables) + len(program.locks) - 1)


def route(edges, source, wanted, barred):
    """A shortest list of nodes from a source, without it, to a wanted one, or None; barred ones only come last."""
    origin = {}
    waiting = [source]
    at = 0
    while at < len(waiting):
        before = waiting[at]
        for node in edges[before]:
            if node not in origin:
                origin[node] = before
                if node in wanted:
                    return back_to(origin, source, node)
                if node not in barred:
                    waiting.append(node)
        at += 1
    return None


def back_to(origin, source, node):
    """The list of the nodes behind the source up to a node, each one reached from its origin."""
    found = [node]
    while origin[found[-1]] != source:
        found.append(origin[found[-1]])
    found.reverse()
    return found


def leaps(edges, source, barred):
    """The list of the nodes to which a way leads from a source, with the barred ones only at its end."""
    seen = {}
    waiting = [source]
    while waiting:
        before = waiting.pop()
        for node in edges[before]:
            if node not in seen:
                seen[node] = True
                if node not in barred:
                    waiting.append(node)
    return list(seen)


class Stage:
    """What the other threads of a cast can do at one go."""

    def __init__(self, cast):
        seats = range(len(cast.seats))
        takes = {seat: True for seat in seats if cast.needs[seat] != 0}
        self.cast = cast
        self.gives = {seat: True for seat in seats if cast.frees[seat] != 0}
        self.unbound = {seat: True for seat in seats if cast.keeps[seat] == 0}
        self.uses = [cast.keeps[seat] + cast.frees[seat] for seat in seats]
        self.reach = [leaps(cast.after, seat, self.gives) for seat in seats]
        self.fresh = {step: seat for seat in reversed(list(self.unbound)) for step in self.reach[seat]}
        self.release = {seat: route(cast.after, seat, self.unbound, takes) for seat in seats if cast.keeps[seat] != 0}

    def starts(self, kind):
        """The states with a thread of a kind that holds no lock, before its chain has begun."""
        return [((seat, 0), (), NO_CARRIER) for seat in self.unbound if self.cast.seats[seat][0] == kind]

    def rested(self, others, seat):
        """The others and a thread that stops at a seat, if it holds a lock there."""
        return others if seat in self.unbound else joined(others, seat)


class Hunt:
    """The moves of a watched thread, which is led by edges, and of the threads around it.

    The edges lead from node to node. A node is a tuple (seat, mark): the mark is 0 as long as no chain may begin. A
    state is a tuple (node, others, carrier), where the carrier is none of the others. A move is a tuple (state behind
    it, word, from where, to where).
    """

    def __init__(self, stage, edges):
        self.stage = stage
        self.cast = stage.cast
        self.edges = edges
        self.stops = {node: True for node in edges if node[0] in stage.gives}
        self.ahead = {node: leaps(edges, node, self.stops) for node in edges}

    def moves(self, state):
        """The list of all moves from a state."""
        node, others, carrier = state
        bearer = self.cast.bearer(carrier)
        busy = self.cast.keeps[node[0]] + self.cast.held_by(others)
        if bearer is not None:
            busy += self.cast.keeps[bearer]
        found = self._watched_moves(state, busy)
        for other in others:
            found.extend(self._other_moves(state, busy, other))
        if bearer is not None:
            found.extend(self._bearer_moves(state, busy, bearer))
        if carrier != DONE:
            found.extend(self._further_moves(state, busy))
        return found

    def _possible(self, steps, busy):
        """Those of some steps to which a thread can leap while the others hold the locks in busy."""
        return [step for step in steps if self.stage.uses[step] & busy == 0]

    def _grabs(self, carrier):
        """The dict whose keys are the seats whose steps take the chain up."""
        return {} if carrier == DONE else self.cast.grabs[carrier]

    def _stops(self, node, carrier):
        """Whether it can be of use that the watched thread stops at a node, so that a chain begins there perhaps."""
        if node in self.stops or carrier == DONE:
            return True
        return carrier == NO_CARRIER and node[1] != 0 and self.cast.deed_at[node[0]] is not None

    def _watched_moves(self, state, busy):
        node, others, carrier = state
        cast = self.cast
        closing = self._grabs(carrier) if carrier <= len(cast.deeds) else {}
        found = []
        for target in self.ahead[node]:
            if self._possible([target[0]], busy - cast.keeps[node[0]]):
                if target[0] in closing:
                    found.append(((target, others, DONE), "watched", node, target))
                if self._stops(target, carrier):
                    found.append(((target, others, carrier), "watched", node, target))
        if carrier == NO_CARRIER and node[1] != 0:
            found.append(((node, others, cast.own_carrier(cast.deed_at[node[0]])), "begin", node, node))
        return found

    def _other_moves(self, state, busy, other):
        node, others, carrier = state
        rest = tuple([one for one in others if one != other])
        found = []
        for step in self._possible(self.stage.reach[other], busy - self.cast.keeps[other]):
            if step in self.stage.gives:
                found.append(((node, self.stage.rested(rest, step), carrier), "rest", other, step))
            if step in self._grabs(carrier):
                found.append(((node, rest, self.cast.thread_carrier(step)), "join", other, step))
        return found

    def _bearer_moves(self, state, busy, bearer):
        node, others, _ = state
        cast = self.cast
        found = []
        for step in self._possible(self.stage.reach[bearer], busy - cast.keeps[bearer]):
            if cast.deed_at[step] is not None:
                found.append(((node, others, cast.thread_carrier(step)), "bear", bearer, step))
        rest = others if self.stage.release.get(bearer) is not None else self.stage.rested(others, bearer)
        found.append(((node, rest, cast.object_carrier(cast.deed_at[bearer])), "leave", bearer, bearer))
        return found

    def _further_moves(self, state, busy):
        node, others, carrier = state
        found = []
        for step in self._possible(self.stage.fresh, busy):
            if step in self.stage.gives and step not in self.stage.unbound:
                found.append(((node, joined(others, step), carrier), "further rest", None, step))
            if step in self._grabs(carrier):
                found.append(((node, others, self.cast.thread_carrier(step)), "further join", None, step))
        return found


def fewest_moves(hunt, starts):
    """The tuple (start, moves) that closes a chain with the fewest further threads, or None."""
    origin = {start: None for start in starts}
    layer = list(starts)
    while layer:
        later = []
        at = 0
        while at < len(layer):
            before = layer[at]
            for move in hunt.moves(before):
                if move[1] in ("further rest", "further join"):
                    later.append((before, move))
                elif move[0] not in origin:
                    origin[move[0]] = (before, move)
                    layer.append(move[0])
                    if move[0][2] == DONE:
                        return moves_to(origin, move[0])
            at += 1
        layer = []
        for before, move in later:
            if move[0] not in origin:
                origin[move[0]] = (before, move)
                layer.append(move[0])
    return None


def moves_to(origin, state):
    """The tuple (start, moves) with which a state is reached, if origin tells how each one is reached."""
    found = []
    while origin[state] is not None:
        before, move = origin[state]
        found.append(move)
        state = before
    found.reverse()
    return state, found


class Script:
    """The run in which the moves of a hunt are made, one after the other. Thread 0 is the watched one."""

    def __init__(self, hunt, start):
        self.hunt = hunt
        self.names = []
        self.opening = []
        self.lines = []
        self.crew = {}
        self.carrier = None
        self._enter(start[0][0])

    def _enter(self, seat):
        """Adds a thread that comes to a seat, at which it holds no lock, before anything else happens."""
        cast = self.hunt.cast
        kind = cast.seats[seat][0]
        first = cast.seat((kind, -1))
        way = [] if seat == first else route(cast.after, first, {seat: True}, {})
        self.opening.extend([(len(self.names), cast.seats[step][1]) for step in way])
        self.names.append(kind)
        return len(self.names) - 1

    def _add(self, thread, way):
        """Adds the steps on some seats to what a thread does."""
        self.lines.extend([(thread, self.hunt.cast.seats[step][1]) for step in way])

    def _leap(self, thread, source, target):
        """Adds the leap of a thread that is not the watched one."""
        stage = self.hunt.stage
        self._add(thread, route(stage.cast.after, source, {target: True}, stage.gives))

    def make(self, move):
        """Adds what happens in a move."""
        _, word, source, target = move
        if word == "watched":
            way = route(self.hunt.edges, source, {target: True}, self.hunt.stops)
            self._add(0, [node[0] for node in way])
        elif word == "bear":
            self._leap(self.carrier, source, target)
        elif word == "leave":
            self._leave(source)
        elif word != "begin":
            fresh = word in ("further rest", "further join")
            before = self.hunt.stage.fresh[target] if fresh else source
            thread = self._enter(before) if fresh else self.crew.pop(before)
            self._leap(thread, before, target)
            if word in ("join", "further join"):
                self.carrier = thread
            else:
                self.crew[target] = thread

    def _leave(self, seat):
        """Lets the carrier leave the chain at a seat."""
        way = self.hunt.stage.release.get(seat)
        if way is not None:
            self._add(self.carrier, way)
        else:
            self.crew[seat] = self.carrier

    def run(self):
        """The run of all that has been added."""
        return Run(self.hunt.cast.program, self.names, self.opening + self.lines)


def broken_moves(scene):
    """The tuple (hunt, start, moves) that breaks the stretch of a scene with the fewest further threads, or None."""
    cast = scene.cast
    edges = {(seat, 1): [(step, 1) for step in scene.goes_on_to[seat]] for seat in scene.inside}
    for seat, after in enumerate(cast.after):
        edges[(seat, 0)] = [(step, mark) for step in after for mark in ((0, 1) if step in scene.inside else (0,))]
    hunt = Hunt(Stage(cast), edges)
    found = fewest_moves(hunt, hunt.stage.starts(scene.stretch.kind))
    return None if found is None else (hunt, *found)


def breaking_run(stretch):
    """A run with the fewest threads whose first thread has a broken pass of a stretch; None if it is unbroken."""
    found = broken_moves(Scene(stretch))
    if found is None:
        return None
    hunt, start, moves = found
    script = Script(hunt, start)
    for move in moves:
        script.make(move)
    return script.run()


def fewest_others(stretch):
    """The number of the threads of a breaking run less 1; None if the stretch is unbroken."""
    run = breaking_run(stretch)
    return None if run is None else len(run.threads) - 1
