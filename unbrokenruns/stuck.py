"""Stuck threads, runs in which threads are stuck, and tables that show that none ever is."""

from unbrokenruns.runs import Run
from unbrokenruns.search import moves_to, route
from unbrokenruns.states import Cast, joined


def wanted(cast, seat):
    """The locks that the steps behind a seat take; 0 if there is no such step or another one among them."""
    needs = [cast.needs[step] for step in cast.after[seat]]
    if 0 in needs:
        return 0
    locks = 0
    for need in needs:
        locks = locks | need
    return locks


def stuck_part(cast, seats):
    """The ascending list of the indices of the threads on some seats that are the greatest stuck set."""
    wants = [wanted(cast, seat) for seat in seats]
    found = [thread for thread, locks in enumerate(wants) if locks != 0]
    before = len(seats) + 1
    while len(found) < before:
        before = len(found)
        held = cast.held_by([seats[thread] for thread in found])
        found = [thread for thread in found if wants[thread] & held == wants[thread]]
    return found


def stuck_threads(run):
    """The ascending list of the stuck threads at the end of a run."""
    cast = Cast(run.program)
    return stuck_part(cast, [cast.seat((kind, run.place(thread))) for thread, kind in enumerate(run.threads)])


class Calm:
    """The calm states of a program, as the seats of the threads that hold a lock."""

    def __init__(self, program):
        cast = Cast(program)
        self.cast = cast
        self.entries = {step: seat for seat, locks in enumerate(cast.keeps) if locks == 0
                        for step in cast.after[seat] if cast.needs[step] != 0}

    def moves(self, crew):
        """The list of the moves from a state, as tuples (state behind it, from where, to where).

        A further thread comes from None.
        """
        cast = self.cast
        busy = cast.held_by(crew)
        found = []
        for seat in crew:
            rest = tuple([other for other in crew if other != seat])
            found.extend([(joined(rest, step) if cast.keeps[step] != 0 else rest, seat, step)
                          for step in cast.after[seat] if cast.needs[step] & busy == 0])
        found.extend([(joined(crew, step), None, step) for step in self.entries if cast.needs[step] & busy == 0])
        return found

    def origins(self):
        """The dict from each state to which moves lead from () to the tuple (state before it, move), or None for ()."""
        origin = {(): None}
        waiting = [()]
        while waiting:
            crew = waiting.pop()
            for move in self.moves(crew):
                if move[0] not in origin:
                    origin[move[0]] = (crew, move)
                    waiting.append(move[0])
        return origin

    def way_in(self, step):
        """The numbers of the steps of a thread from its beginning to the place from which it enters with a step."""
        cast = self.cast
        first = cast.seat((cast.seats[step][0], -1))
        seat = self.entries[step]
        way = [] if seat == first else route(cast.after, first, {seat: True}, {})
        return [cast.seats[one][1] for one in way]

    def script(self, origin, crew):
        """The run of the threads of a state alone. What a thread does before it enters comes first of all."""
        names = [self.cast.seats[seat][0] for seat in crew]
        threads = {seat: thread for thread, seat in enumerate(crew)}
        opening = []
        lines = []
        for _, source, target in reversed(moves_to(origin, crew)[1]):
            # Other threads than these are left out, and the rest is still a run.
            if target in threads:
                thread = threads.pop(target)
                lines.append((thread, self.cast.seats[target][1]))
                if source is None:
                    opening.extend([(thread, number) for number in self.way_in(target)])
                else:
                    threads[source] = thread
        lines.reverse()
        return Run(self.cast.program, names, opening + lines)


def sticking_run(program):
    """A run of stuck threads, as few as possible; None if the program does not stick."""
    calm = Calm(program)
    origin = calm.origins()
    best = None
    for crew in origin:
        if crew and len(stuck_part(calm.cast, crew)) == len(crew) and (best is None or len(crew) < len(best)):
            best = crew
    return None if best is None else calm.script(origin, best)


def calm_table(program):
    """The ascending calm table with the fewest states; None if the program sticks."""
    calm = Calm(program)
    crews = list(calm.origins())
    if any([stuck_part(calm.cast, crew) for crew in crews]):
        return None
    ranked = {calm.cast.rank(0, crew): crew for crew in crews}
    return [tuple([calm.cast.seats[seat] for seat in ranked[rank]]) for rank in sorted(ranked, key=int)]


def is_calm_table(program, value):
    """Whether any value is a calm table."""
    if not isinstance(value, list):
        return False
    calm = Calm(program)
    crews = [calm.cast.read_crew(state, 0) for state in value]
    known = {crew: True for crew in crews}
    if None in known or () not in known or len(known) != len(crews):
        return False
    return all([not stuck_part(calm.cast, crew) and all([move[0] in known for move in calm.moves(crew)])
                for crew in crews])
