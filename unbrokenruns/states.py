"""States of a stretch: one watched thread among others, and how far a chain has come."""

from unbrokenruns.chains import conflicts
from unbrokenruns.errors import InvalidState
from unbrokenruns.shapes import LOCK_WORDS, VARIABLE_WORDS, is_integer

NO_CARRIER = 0


def all_deeds(program):
    """The ascending list of all tuples (object, word) of a program."""
    variables = program.variables
    found = []
    for name in sorted(variables + program.locks, key=str):
        words = VARIABLE_WORDS if name in variables else LOCK_WORDS
        found.extend([(name, word) for word in sorted(words, key=str)])
    return found


def joined(crew, seat):
    """The ascending tuple of some seats and a further one."""
    return tuple(sorted([*crew, seat], key=int))


class Cast:
    """All places of the kinds of a program, and what a thread does there, in numbers.

    A seat is the number of a tuple (kind, place), a deed that of a tuple (object, word), and each carrier has a
    number, too. They are numbered in ascending order, so numbers have the order of what they stand for. A set of
    locks is a sum of bits.
    """

    def __init__(self, program):
        self.program = program
        self.seats = []
        self.after = []
        self.keeps = []
        self.needs = []
        self.frees = []
        self.deed_at = []
        self.deeds = all_deeds(program)
        for kind in sorted(program.kinds, key=str):
            self._seat_kind(program.ways(kind), kind)
        self.numbers = {pair: seat for seat, pair in enumerate(self.seats)}
        self.carriers = [()]
        self.carriers.extend([("object", *deed) for deed in self.deeds])
        self.carriers.extend([("own", *deed) for deed in self.deeds])
        self.carriers.extend([("thread", *pair) for pair in self.seats])
        self.first_thread = 1 + 2 * len(self.deeds)
        self.grabs = self._all_grabs()

    def _seat_kind(self, ways, kind):
        """Adds the seats of a kind."""
        bits = {name: 1 << at for at, name in enumerate(self.program.locks)}
        first = len(self.seats)
        for place in range(-1, len(ways.sequence)):
            written = ("own",) if place == -1 else ways.sequence[place]
            self.seats.append((kind, place))
            self.after.append([first + 1 + number for number, _ in ways.nexts[place + 1]])
            self.keeps.append(sum([bits[name] for name in ways.holds[place + 1]]))
            self.needs.append(bits[written[1]] if written[0] == "take" else 0)
            self.frees.append(bits[written[1]] if written[0] == "give" else 0)
            self.deed_at.append(None if len(written) == 1 else self.deeds.index((written[1], written[0])))

    def _all_grabs(self):
        """The list with, for each carrier, the dict whose keys are the seats whose steps take the chain up."""
        meets = []
        for name, word in self.deeds:
            fitting = [conflicts((word, name), (other[1], other[0])) for other in self.deeds]
            meets.append({seat: True for seat, deed in enumerate(self.deed_at) if deed is not None and fitting[deed]})
        return [{}, *meets, *meets, *[{} for _ in self.seats]]

    def object_carrier(self, deed):
        """The number of the carrier (`object`, object, word)."""
        return 1 + deed

    def own_carrier(self, deed):
        """The number of the carrier (`own`, object, word)."""
        return 1 + len(self.deeds) + deed

    def thread_carrier(self, seat):
        """The number of the carrier (`thread`, kind, place)."""
        return self.first_thread + seat

    def bearer(self, carrier):
        """The seat of the thread that is the carrier; None for another carrier."""
        return carrier - self.first_thread if carrier >= self.first_thread else None

    def held_by(self, crew):
        """The locks that the threads on some seats hold."""
        return sum([self.keeps[seat] for seat in crew])

    def seat(self, value):
        """The seat of any value; None if it is no tuple (kind, place)."""
        if not isinstance(value, tuple) or len(value) != 2 or not isinstance(value[0], str):
            return None
        return self.numbers.get(value) if is_integer(value[1]) else None

    def read_crew(self, value, busy):
        """The seats of any value among threads that hold the locks in busy; None if it is no tuple of threads.

        Such a tuple is ascending, each of its threads holds a lock, and no lock is held twice.
        """
        if not isinstance(value, tuple):
            return None
        found = []
        for pair in value:
            seat = self.seat(pair)
            if seat is None or self.keeps[seat] == 0 or self.keeps[seat] & busy != 0:
                return None
            if found and seat < found[-1]:
                return None
            found.append(seat)
            busy += self.keeps[seat]
        return tuple(found)

    def rank(self, number, crew):
        """A number with which tuples of a number and the seats of a crew have the order of what they stand for."""
        for at in range(len(self.program.locks)):
            number = number * (len(self.seats) + 1) + (crew[at] + 1 if at < len(crew) else 0)
        return number

    def deed(self, value):
        """The deed of a tuple of two values; None if it is no tuple (object, word)."""
        return self.deeds.index(value) if value in self.deeds else None


class Scene:
    """The states of a stretch in numbers: tuples (seat, others, carrier)."""

    def __init__(self, stretch):
        cast = Cast(stretch.program)
        first = cast.seat((stretch.kind, -1)) + 1
        self.stretch = stretch
        self.cast = cast
        self.inside = {first + number: True for number in stretch.steps()}
        self.goes_on_to = {seat: [step for step in cast.after[seat] if stretch.goes_on(seat - first, step - first)]
                           for seat in self.inside}
        unbound = [seat for seat in range(len(cast.seats)) if cast.keeps[seat] == 0]
        self.further = {step: True for seat in unbound for step in cast.after[seat]}
        self.begin = (first - 1, (), NO_CARRIER)

    def read(self, value):
        """The state in numbers that any value stands for; None if it is no state."""
        if not isinstance(value, tuple) or len(value) != 3:
            return None
        seat = self.cast.seat((self.stretch.kind, value[0]))
        if seat is None:
            return None
        others = self.cast.read_crew(value[1], self.cast.keeps[seat])
        if others is None:
            return None
        carrier = self._read_carrier(value[2], others)
        if carrier is None or (carrier != NO_CARRIER and seat not in self.inside):
            return None
        return (seat, others, carrier)

    def _read_carrier(self, value, others):
        """The number of a carrier, any value; None if it is none beside these others."""
        if not isinstance(value, tuple):
            return None
        if value == ():
            return NO_CARRIER
        cast = self.cast
        if value[0] == "thread":
            seat = cast.seat(value[1:])
            if seat is None or value[2] == -1 or (cast.keeps[seat] != 0 and seat not in others):
                return None
            return cast.thread_carrier(seat)
        deed = cast.deed(value[1:])
        if deed is None or value[0] not in ("own", "object"):
            return None
        return cast.own_carrier(deed) if value[0] == "own" else cast.object_carrier(deed)

    def written(self, state):
        """A state as it is written."""
        seat, others, carrier = state
        crew = tuple([self.cast.seats[other] for other in others])
        return (self.cast.seats[seat][1], crew, self.cast.carriers[carrier])

    def rank(self, state):
        """A number with which states have the order of what they stand for."""
        seat, others, carrier = state
        return self.cast.rank(seat, others) * len(self.cast.carriers) + carrier

    def ascending(self, states):
        """The ascending list of some states as they are written, without duplicates."""
        ranked = {self.rank(state): state for state in states}
        return [self.written(ranked[rank]) for rank in sorted(ranked, key=int)]

    def behind(self, state):
        """The list of the states behind the moves from a state, some perhaps more than once."""
        seat, others, carrier = state
        busy = self.cast.keeps[seat] + self.cast.held_by(others)
        found = self._behind_watched(state, busy)
        for other in others:
            found.extend(self._behind_other(state, busy, other))
        found.extend(self._behind_further(state, busy))
        bearer = self.cast.bearer(carrier)
        if bearer is not None:
            found.extend(self._behind_bearer(state, busy, bearer))
        return found

    def breaks(self, state):
        """Whether a move from a state breaks the pass."""
        seat, others, carrier = state
        if not 0 < carrier <= len(self.cast.deeds):
            return False
        busy = self.cast.keeps[seat] + self.cast.held_by(others)
        grabs = self.cast.grabs[carrier]
        return any([step in grabs for step in self._possible(self.goes_on_to[seat], busy)])

    def _possible(self, steps, busy):
        """Those of some steps that take no lock that a thread holds."""
        return [step for step in steps if self.cast.needs[step] & busy == 0]

    def _crew(self, others, step):
        """The others and a thread that has performed a step, if it holds a lock then."""
        return joined(others, step) if self.cast.keeps[step] != 0 else others

    def _behind_watched(self, state, busy):
        """The states behind the moves of the watched thread."""
        seat, others, carrier = state
        cast = self.cast
        found = []
        for step in self._possible(cast.after[seat] if carrier == NO_CARRIER else self.goes_on_to[seat], busy):
            found.append((step, others, carrier))
            if step in self.inside and cast.deed_at[step] is not None:
                found.append((step, others, cast.own_carrier(cast.deed_at[step])))
        return found

    def _behind_other(self, state, busy, other):
        """The states behind the moves of one of the others."""
        seat, others, carrier = state
        cast = self.cast
        rest = tuple([one for one in others if one != other])
        found = []
        for step in self._possible(cast.after[other], busy):
            crew = self._crew(rest, step)
            if carrier != cast.thread_carrier(other):
                found.append((seat, crew, carrier))
            if carrier == cast.thread_carrier(other) or step in cast.grabs[carrier]:
                found.append((seat, crew, cast.thread_carrier(step)))
        return found

    def _behind_further(self, state, busy):
        """The states behind the moves of further threads."""
        seat, others, carrier = state
        cast = self.cast
        found = []
        for step in self._possible(self.further, busy):
            crew = self._crew(others, step)
            if cast.keeps[step] != 0:
                found.append((seat, crew, carrier))
            if step in cast.grabs[carrier]:
                found.append((seat, crew, cast.thread_carrier(step)))
        return found

    def _behind_bearer(self, state, busy, bearer):
        """The states behind the moves of a carrier that holds no lock, and behind its exchange."""
        seat, others, _ = state
        cast = self.cast
        found = []
        if cast.keeps[bearer] == 0:
            for step in self._possible(cast.after[bearer], busy):
                found.append((seat, self._crew(others, step), cast.thread_carrier(step)))
        if cast.deed_at[bearer] is not None:
            found.append((seat, others, cast.object_carrier(cast.deed_at[bearer])))
        return found


def moves(stretch, state):
    """The tuple of the ascending list of the states behind the moves from a state, and whether one breaks the pass."""
    scene = Scene(stretch)
    inner = scene.read(state)
    if inner is None:
        raise InvalidState(state)
    return scene.ascending(scene.behind(inner)), scene.breaks(inner)
