"""Runs of some threads, event by event."""

from unbrokenruns.errors import InvalidThread, InvalidThreads, NotPossible
from unbrokenruns.shapes import is_integer

MAX_THREADS = 12
MAX_EVENTS = 400


def check_threads(program, threads):
    """Raises InvalidThreads for any value that is not a list of kinds of a program."""
    if not isinstance(threads, (list, tuple)) or not 1 <= len(threads) <= MAX_THREADS:
        raise InvalidThreads(None)
    for index, kind in enumerate(threads):
        if kind not in program:
            raise InvalidThreads(index)


def is_event(value):
    """Whether any value has the form of an event."""
    return isinstance(value, tuple) and len(value) == 2 and is_integer(value[0]) and is_integer(value[1])


class Run:
    """Some threads and what they have performed. A run never changes."""

    def __init__(self, program, threads, events=()):
        check_threads(program, threads)
        if not isinstance(events, (list, tuple)) or len(events) > MAX_EVENTS:
            raise NotPossible(None)
        self.program = program
        self._kinds = tuple(threads)
        self._ways = [program.ways(kind) for kind in self._kinds]
        self._places = [-1] * len(self._kinds)
        self._holders = {}
        self._events = []
        for event in events:
            self._perform(event)

    @property
    def threads(self):
        """The list of the kinds of the threads."""
        return list(self._kinds)

    @property
    def events(self):
        """The list of the events."""
        return list(self._events)

    @property
    def holders(self):
        """The dict from each lock that is held at the end to the thread that holds it."""
        return dict(self._holders)

    def __len__(self):
        return len(self._events)

    def __iter__(self):
        return iter(self._events)

    def __contains__(self, value):
        return is_event(value) and value in self._events

    def __eq__(self, other):
        return (isinstance(other, Run) and self._kinds == other._kinds and self._events == other._events
                and self.program == other.program)

    def _perform(self, event):
        """Adds an event, any value. Only a run that nobody else has yet is changed so."""
        if not self._is_possible(event):
            raise NotPossible(event)
        thread, number = event
        written = self._ways[thread].sequence[number]
        if written[0] == "take":
            self._holders[written[1]] = thread
        elif written[0] == "give":
            del self._holders[written[1]]
        self._places[thread] = number
        self._events.append((thread, number))

    def _is_possible(self, event):
        """Whether any value is an event that is possible next."""
        if not is_event(event) or not 0 <= event[0] < len(self._kinds) or len(self._events) >= MAX_EVENTS:
            return False
        return event[1] in self._coming(event[0])

    def _coming(self, thread):
        """The ascending list of the steps that a thread can perform next."""
        ways = self._ways[thread]
        return [number for number, _ in ways.nexts[self._places[thread] + 1] if self._is_free(ways.sequence[number])]

    def _is_free(self, written):
        """Whether a step takes no lock that a thread holds."""
        return written[0] != "take" or written[1] not in self._holders

    def _check_thread(self, value):
        """Raises InvalidThread for any value that is not the number of a thread."""
        if not is_integer(value) or not 0 <= value < len(self._kinds):
            raise InvalidThread(value)

    def place(self, thread):
        """The place of a thread at the end."""
        self._check_thread(thread)
        return self._places[thread]

    def step(self, position):
        """The step of the event at a position."""
        thread, number = self._events[position]
        return self._ways[thread].sequence[number]

    def then(self, event):
        """The run with one more event, any value."""
        longer = Run(self.program, self._kinds)
        longer._places = list(self._places)
        longer._holders = dict(self._holders)
        longer._events = list(self._events)
        longer._perform(event)
        return longer

    def next_events(self):
        """The ascending list of the events that are possible next."""
        if len(self._events) >= MAX_EVENTS:
            return []
        return [(thread, number) for thread in range(len(self._kinds)) for number in self._coming(thread)]

    def without(self, *threads):
        """The run without some threads and their events."""
        for value in threads:
            self._check_thread(value)
        kept = [thread for thread in range(len(self._kinds)) if thread not in threads]
        if not kept:
            raise InvalidThread(None)
        numbers = {thread: at for at, thread in enumerate(kept)}
        events = [(numbers[thread], number) for thread, number in self._events if thread in numbers]
        return Run(self.program, [self._kinds[thread] for thread in kept], events)


def all_runs(program, threads, *, most=6):
    """Yields, in ascending order of their events, all runs of these threads with at most so many events."""
    waiting = [Run(program, threads)]
    while waiting:
        run = waiting.pop()
        yield run
        if len(run) < most:
            # The last one in the list comes out first, so the smallest event has to go in last.
            for event in reversed(run.next_events()):
                waiting.append(run.then(event))
