"""Stretches together: the units of a run, serial orders and rings of units."""

from unbrokenruns.chains import acts, conflicts, is_position, passes, tied
from unbrokenruns.errors import OverlappingStretches, TooMany
from unbrokenruns.movers import next_in_pass
from unbrokenruns.runs import Run, check_threads
from unbrokenruns.search import moves_to, route
from unbrokenruns.states import Cast
from unbrokenruns.tables import is_unbroken

MOST_THREADS = 3
MOST_EVENTS = 8
MOST_LOCKS = 1


def have_common_step(one, other):
    """Whether two stretches have a common step of a kind."""
    return one.kind == other.kind and any([number in other for number in one.steps()])


def check_apart(stretches):
    """Raises OverlappingStretches with the smallest pair of stretches that have a common step."""
    for one, stretch in enumerate(stretches):
        for other in range(one + 1, len(stretches)):
            if have_common_step(stretch, stretches[other]):
                raise OverlappingStretches(one, other)


def units(run, stretches):
    """The ascending list of the units of a run."""
    check_apart(stretches)
    found = {}
    inside = {}
    for stretch in stretches:
        for _, positions in passes(run, stretch):
            found[positions[0]] = positions
            inside.update({at: True for at in positions})
    return [found.get(at, [at]) for at in range(len(run)) if at in found or at not in inside]


def unit_numbers(groups):
    """The dict from each position to the index of its unit."""
    return {at: index for index, unit in enumerate(groups) for at in unit}


def unit_links(run, groups):
    """The list with, for each unit, the dict from each unit to which a link leads from it to such a link."""
    doings = acts(run)
    unit_of = unit_numbers(groups)
    found = [{} for _ in groups]
    for first, doing in enumerate(doings):
        targets = found[unit_of[first]]
        for later in range(first + 1, len(doings)):
            unit = unit_of[later]
            if unit != unit_of[first] and unit not in targets and tied(doing, doings[later]):
                targets[unit] = (first, later)
    return found


def unit_order(links):
    """The list of the units in the order in which they come, as far as a ring of units does not stop them."""
    due = [sum([unit in targets for targets in links]) for unit in range(len(links))]
    found = []
    while 0 in due:
        unit = due.index(0)
        due[unit] = -1
        found.append(unit)
        for target in links[unit]:
            due[target] -= 1
    return found


def serial_order(run, stretches):
    """The serial order in which the first unit that may come next always comes next; None if there is none."""
    groups = units(run, stretches)
    order = unit_order(unit_links(run, groups))
    return [at for unit in order for at in groups[unit]] if len(order) == len(groups) else None


def serial_run(run, stretches):
    """The run with the events in the serial order, or None."""
    order = serial_order(run, stretches)
    if order is None:
        return None
    events = run.events
    return Run(run.program, run.threads, [events[at] for at in order])


def pass_ring(run, stretches):
    """A ring of units with as few links as possible, or None."""
    groups = units(run, stretches)
    links = unit_links(run, groups)
    came = unit_order(links)
    best = None
    for unit, positions in enumerate(groups):
        # Links lead forwards, so each ring goes through a unit with several positions.
        if len(positions) > 1 and unit not in came:
            way = route(links, unit, {unit: True}, {})
            if way is not None and (best is None or len(way) < len(best)):
                best = way
    return None if best is None else [links[one][other] for one, other in zip([best[-1], *best], best)]


def is_serial_order(run, stretches, value):
    """Whether any value is a serial order."""
    groups = units(run, stretches)
    if not isinstance(value, list) or len(value) != len(run) or not all([is_position(run, at) for at in value]):
        return False
    ranks = {at: rank for rank, at in enumerate(value)}
    if len(ranks) != len(run):
        return False
    if not all([ranks[one] + 1 == ranks[other] for unit in groups for one, other in zip(unit, unit[1:])]):
        return False
    links = unit_links(run, groups)
    return all([ranks[one[0]] < ranks[other[0]] for one, targets in zip(groups, links)
                for other in [groups[target] for target in targets]])


def is_link(run, value):
    """Whether any value is a tuple of two positions of which the later one depends directly on the earlier one."""
    if not isinstance(value, tuple) or len(value) != 2 or not all([is_position(run, at) for at in value]):
        return False
    if value[0] >= value[1]:
        return False
    doings = acts(run)
    return tied(doings[value[0]], doings[value[1]])


def is_pass_ring(run, stretches, value):
    """Whether any value is a ring of units."""
    unit_of = unit_numbers(units(run, stretches))
    if not isinstance(value, list) or len(value) < 2 or not all([is_link(run, link) for link in value]):
        return False
    return all([unit_of[one[0]] != unit_of[one[1]] and unit_of[one[1]] == unit_of[other[0]]
                for one, other in zip(value, value[1:] + value[:1])])


class Loom:
    """The runs of some threads, told apart only by what can become a ring of units.

    A state has, for each thread, a tuple (seat, own, beyond, met). It tells of the unit with which the thread may go
    on: own are the deeds of this unit, beyond those of the other units to which links lead from it, one behind the
    other, and met are the threads of these units. All three are sums of bits. New links lead to the unit of the latest
    event only, so an event that goes on with a unit closes a ring exactly if it conflicts with a deed beyond.
    """

    def __init__(self, program, threads, stretches):
        cast = Cast(program)
        self.cast = cast
        self.clashes = self._all_clashes(threads)
        # A deed that conflicts with no step of these threads tells nothing.
        self.bits = [1 << deed if clash != 0 else 0 for deed, clash in zip(cast.deed_at, self.clashes)]
        self.joins = {}
        self.unfinished = {}
        for stretch in stretches:
            first = cast.seat((stretch.kind, 0))
            for number in stretch.steps():
                for step in next_in_pass(stretch, number):
                    self.joins[(first + number, first + step)] = True
                    self.unfinished[first + number] = True
        self.begin = tuple([(cast.seat((kind, -1)), 0, 0, 0) for kind in threads])

    def _all_clashes(self, threads):
        """The list with, for each seat, the deeds of steps of these threads that conflict with its step."""
        cast = self.cast
        deeds = sorted({deed: True for deed, pair in zip(cast.deed_at, cast.seats)
                        if deed is not None and pair[0] in threads}, key=int)
        steps = [(cast.deeds[deed][1], cast.deeds[deed][0]) for deed in deeds]
        against = {deed: sum([1 << other for other, written in zip(deeds, steps) if conflicts(step, written)])
                   for deed, step in zip(deeds, steps)}
        return [0 if deed is None else against.get(deed, 0) for deed in cast.deed_at]

    def choices(self, state):
        """The list of the tuples (thread, step) of the events that are possible next."""
        busy = self.cast.held_by([woven[0] for woven in state])
        return [(thread, step) for thread, woven in enumerate(state) for step in self.cast.after[woven[0]]
                if self.cast.needs[step] & busy == 0]

    def behind(self, state, thread, step):
        """The state behind an event; None if the event closes a ring of units."""
        seat, own, beyond, met = state[thread]
        if (seat, step) not in self.joins:
            own, beyond, met = 0, 0, 0
        clash = self.clashes[step]
        if beyond & clash != 0:
            return None
        own = own | self.bits[step]
        found = []
        for other, (place, mine, others, known) in enumerate(state):
            if other == thread:
                found.append((step, own, beyond, met) if step in self.unfinished else (step, 0, 0, 0))
            elif known & (1 << thread) != 0 or (mine | others) & clash != 0:
                found.append((place, mine, others | own | beyond, known | met | (1 << thread)))
            else:
                found.append((place, mine, others, known))
        return tuple(found)

    def events_to_ring(self, most):
        """The shortest list of at most so many events with which a ring of units is closed, or None."""
        origin = {self.begin: None}
        layer = [self.begin]
        for _ in range(most):
            later = []
            for state in list(layer):
                for event in self.choices(state):
                    after = self.behind(state, *event)
                    if after is None:
                        return self.written([*moves_to(origin, state)[1], event])
                    if after not in origin:
                        origin[after] = (state, event)
                        later.append(after)
            layer = later
        return None

    def written(self, events):
        """Events with the numbers of the steps instead of the seats."""
        return [(thread, self.cast.seats[step][1]) for thread, step in events]


def first_ring(program, threads, stretches, *, most):
    """A run of these threads with at most so many events, as few as possible, that has a ring of units; or None."""
    check_apart(stretches)
    if isinstance(threads, (list, tuple)) and len(threads) > MOST_THREADS:
        raise TooMany("threads", len(threads))
    if most > MOST_EVENTS:
        raise TooMany("events", most)
    check_threads(program, threads)
    events = Loom(program, threads, stretches).events_to_ring(most)
    return None if events is None else Run(program, threads, events)


def together(program, stretches):
    """Whether every run has a serial order for these stretches of a program with at most one lock."""
    check_apart(stretches)
    locks = program.locks
    if len(locks) > MOST_LOCKS:
        raise TooMany("locks", len(locks))
    return all([is_unbroken(stretch) for stretch in stretches])
