"""[18] Runs, with the definitions of [6] and [8]."""

import random
import unittest

from unbrokenruns.errors import InvalidThread, InvalidThreads, NotPossible
from unbrokenruns.programs import Program
from unbrokenruns.runs import Run, all_runs
from tests.models import LOOP, MAZE, NESTED, OPEN, Thing, catch, odd_values, random_rows
from tests.slow import Replay, event_lists, flat

PAIR = ("put", (("read", "x"), ("write", "x")))
TWO = ("two", (("take", "m"), ("take", "n"), ("give", "n"), ("give", "m")))
ALL = Program([LOOP, MAZE, NESTED, OPEN])
FORMS = [0, 1, "00", (0, 0, 0), (0,), [0, 0], (0, "0"), ("0", 0), (True, 0), (False, 0), (0, False), (0, True),
         (0, None), (None, 0), ((0,), 0), (0, (0,)), ([], 0), (0, []), ({}, 0), (b"", 0), (0, {0}), (-1, 0), (0, -1),
         (0, -2), (1, 0), (0, 99), (99, 0), (10 ** 50, 0), (0, 10 ** 50), (-10 ** 50, 0)]


def random_events(rng, program, threads, many):
    """The events of a random run."""
    run = Run(program, threads)
    while len(run) < many and run.next_events():
        run = run.then(rng.choice(run.next_events()))
    return run.events


def programs():
    """Programs of one and two kinds."""
    rows = random_rows(60, 11, most=9)
    found = [Program([("a", one), ("b", other)]) for one, other in zip(rows, rows[1:])]
    return [ALL, *found]


class EventByEventTest(unittest.TestCase):
    def check(self, run, expected):
        """Compares a run with a replay of its events."""
        self.assertEqual(run.next_events(), expected.possible())
        self.assertEqual(run.holders, expected.holders())
        self.assertEqual([run.place(thread) for thread in range(len(run.threads))], expected.places)

    def test_random_runs(self):
        rng = random.Random(1)
        for program in programs():
            for _ in range(4):
                threads = [rng.choice(program.kinds) for _ in range(rng.randint(1, 12))]
                events = []
                run = Run(program, threads)
                self.check(run, Replay(program, threads, []))
                while run.next_events() and len(events) < 25:
                    event = rng.choice(run.next_events())
                    events.append(event)
                    run = run.then(event)
                    self.check(run, Replay(program, threads, events))
                    self.assertEqual(run.events, events)
                    self.assertEqual(run.step(len(events) - 1), flat(program.row(threads[event[0]]))[event[1]])
                self.assertEqual(Run(program, threads, events), run)
                self.assertEqual([run.step(at) for at in range(len(run))],
                                 [flat(program.row(threads[thread]))[step] for thread, step in events])

    def test_all_events_that_are_not_possible(self):
        rng = random.Random(2)
        for program in programs()[:20]:
            threads = [rng.choice(program.kinds) for _ in range(3)]
            for many in (0, 1, 3, 6):
                events = random_events(rng, program, threads, many)
                run = Run(program, threads, events)
                possible = Replay(program, threads, events).possible()
                for event in [(thread, step) for thread in range(-1, 5) for step in range(-2, 13)]:
                    if event in possible:
                        self.assertEqual(run.then(event), Run(program, threads, events + [event]))
                    else:
                        error = catch(run.then, event)
                        self.assertEqual((error.__class__, error.event), (NotPossible, event))
                        error = catch(Run, program, threads, events + [event])
                        self.assertEqual((error.__class__, error.event), (NotPossible, event))

    def test_locks_block_other_threads(self):
        program = Program([TWO, ("other", (("take", "n"), ("give", "n"), ("take", "m"), ("give", "m")))])
        run = Run(program, ["two", "other", "two"])
        self.assertEqual(run.next_events(), [(0, 0), (1, 0), (2, 0)])
        run = run.then((0, 0))
        self.assertEqual((run.next_events(), run.holders), ([(0, 1), (1, 0)], {"m": 0}))
        run = run.then((1, 0))
        self.assertEqual((run.next_events(), run.holders), ([(1, 1)], {"m": 0, "n": 1}))
        run = run.then((1, 1)).then((0, 1))
        self.assertEqual((run.next_events(), run.holders), ([(0, 2)], {"m": 0, "n": 0}))
        run = run.then((0, 2)).then((0, 3))
        self.assertEqual((run.next_events(), run.holders), ([(1, 2), (2, 0)], {}))
        self.assertEqual([run.place(thread) for thread in range(3)], [3, 1, -1])

    def test_going_around(self):
        program = Program([LOOP])
        run = Run(program, ["loop", "loop"], [(0, 0), (0, 1), (0, 2), (0, 0)])
        self.assertEqual((run.next_events(), run.holders), ([(0, 1), (1, 3)], {"m": 0}))
        self.assertEqual(Run(program, ["loop"], [(0, 0), (0, 1), (0, 2)] * 20 + [(0, 3)]).next_events(), [])

    def test_the_first_event_that_is_not_possible_is_told(self):
        program = Program([PAIR])
        for events, index in (([(0, 0), (0, 0), (0, 5)], 1), ([(0, 0), (0, 1), (0, 1)], 2), ([(0, 1), (0, 0)], 0),
                              ([(1, 0), (0, 0)], 0), ([(0, 0), "x", None], 1), ([(0, 0), (1, 1)], 1),
                              ([None, (0, 1)], 0)):
            error = catch(Run, program, ["put"], events)
            with self.subTest(events=events):
                self.assertIs(error.__class__, NotPossible)
                self.assertIs(error.event, events[index])


class TellingTest(unittest.TestCase):
    def setUp(self):
        self.program = Program([PAIR, LOOP])
        self.run_of_two = Run(self.program, ["put", "loop"], [(0, 0), (1, 0), (1, 1), (0, 1)])

    def test_lists_and_tuples(self):
        events = [(0, 0), (1, 0), (1, 1), (0, 1)]
        for threads in (["put", "loop"], ("put", "loop")):
            for given in (events, tuple(events)):
                run = Run(self.program, threads, given)
                self.assertEqual(run, self.run_of_two)
                self.assertEqual((run.threads, run.events), (["put", "loop"], events))
                self.assertIs(run.threads.__class__, list)
                self.assertIs(run.events.__class__, list)
        self.assertEqual(Run(self.program, ["put"]), Run(self.program, ("put",), ()))
        self.assertEqual(Run(events=events, threads=["put", "loop"], program=self.program), self.run_of_two)

    def test_program(self):
        self.assertIs(self.run_of_two.program, self.program)
        self.assertIs(self.run_of_two.then((1, 2)).program, self.program)
        self.assertIs(self.run_of_two.without(0).program, self.program)
        self.assertIn("program", vars(self.run_of_two))

    def test_len_and_iterating(self):
        self.assertEqual([len(self.run_of_two), len(Run(self.program, ["put"]))], [4, 0])
        self.assertEqual(list(self.run_of_two), [(0, 0), (1, 0), (1, 1), (0, 1)])
        self.assertEqual([event for event in self.run_of_two], self.run_of_two.events)
        self.assertEqual(list(Run(self.program, ["put"])), [])

    def test_in(self):
        for event in self.run_of_two.events:
            self.assertIs(event in self.run_of_two, True)
        other = Run(self.program, ["put", "loop"], [(0, 0), (0, 1)])
        for value in [*odd_values(), *FORMS, (1, 2), (0, 2), other, [(0, 0)], ((0, 0),)]:
            with self.subTest(value=value):
                self.assertIs(value in other, False)

    def test_equality(self):
        events = self.run_of_two.events
        self.assertIs(self.run_of_two == Run(Program([PAIR, LOOP]), ["put", "loop"], events), True)
        self.assertIs(self.run_of_two != Run(Program([PAIR, LOOP]), ["put", "loop"], events), False)
        for other in [Run(Program([LOOP, PAIR]), ["put", "loop"], events),
                      Run(self.program, ["put", "loop"], events[:3]),
                      Run(self.program, ["put", "loop"], [(1, 0), (0, 0), (1, 1), (0, 1)]),
                      Run(self.program, ["put", "loop", "put"], events),
                      Run(Program([PAIR, LOOP, OPEN]), ["put", "loop"], events)]:
            self.assertIs(self.run_of_two == other, False)
            self.assertIs(self.run_of_two != other, True)
        for value in [*odd_values(), events, tuple(events), ["put", "loop"], self.program, 4]:
            self.assertIs(self.run_of_two == value, False)
            self.assertIs(self.run_of_two != value, True)

    def test_then_does_not_change_the_run(self):
        run = Run(self.program, ["put", "loop"], [(0, 0), (1, 0)])
        longer = run.then((1, 1))
        run.then((0, 1))
        catch(run.then, (0, 0))
        self.assertEqual((run.events, run.holders, run.place(1)), ([(0, 0), (1, 0)], {"m": 1}, 0))
        self.assertEqual((longer.events, longer.place(1)), ([(0, 0), (1, 0), (1, 1)], 1))
        given = longer.then((1, 2))
        self.assertEqual((given.holders, longer.holders, run.holders), ({}, {"m": 1}, {"m": 1}))
        self.assertEqual(run.then(event=(1, 1)), longer)

    def test_changed_results_have_no_effect(self):
        run = Run(self.program, ["put", "loop"], [(1, 0)])
        for tell in (lambda: run.threads, lambda: run.events, lambda: run.holders, run.next_events):
            before = tell()
            copy = before.copy()
            before.clear()
            self.assertEqual(tell(), copy)
            self.assertIsNot(tell(), tell())
        self.assertEqual(run, Run(self.program, ["put", "loop"], [(1, 0)]))
        run.events.append((0, 0))
        run.holders["x"] = 1
        self.assertEqual((len(run), run.holders), (1, {"m": 1}))

    def test_changed_arguments_have_no_effect(self):
        threads, events = ["put", "loop"], [(1, 0)]
        run = Run(self.program, threads, events)
        self.assertEqual((threads, events), (["put", "loop"], [(1, 0)]))
        threads.append("put")
        events.append((0, 0))
        threads[0] = events[0] = None
        self.assertEqual(run, Run(self.program, ["put", "loop"], [(1, 0)]))

    def test_properties_cannot_be_assigned(self):
        for name in ("threads", "events", "holders"):
            self.assertIsInstance(vars(Run)[name], property)
            self.assertIsInstance(catch(setattr, self.run_of_two, name, []), AttributeError)

    def test_place(self):
        self.assertEqual([self.run_of_two.place(0), self.run_of_two.place(thread=1)], [1, 1])
        self.assertEqual(Run(self.program, ["put"]).place(0), -1)
        for value in [*odd_values(), "0", -1, 2, 3, 10 ** 50, -10 ** 50, [0], (0,)]:
            error = catch(self.run_of_two.place, value)
            with self.subTest(value=value):
                self.assertIs(error.__class__, InvalidThread)
                self.assertIs(error.value, value)

    def test_step(self):
        self.assertEqual([self.run_of_two.step(at) for at in range(4)],
                         [("read", "x"), ("take", "m"), ("read", "x"), ("write", "x")])
        self.assertEqual(self.run_of_two.step(position=1), ("take", "m"))


class InvalidTest(unittest.TestCase):
    def test_threads(self):
        program = Program([PAIR, LOOP])
        for many in (1, 2, 11, 12):
            self.assertEqual(len(Run(program, ["put"] * many).threads), many)
        for value in [*odd_values(), ["put"] * 13, ("put",) * 13, [None] * 13, "put", {"put": 1}, {"put"}, 1,
                      iter(["put"]), PAIR[0]]:
            if not isinstance(value, (list, tuple)) or len(value) in (0, 13):
                for call in (lambda x: Run(program, x), lambda x: next(all_runs(program, x))):
                    error = catch(call, value)
                    with self.subTest(value=value):
                        self.assertEqual((error.__class__, error.index), (InvalidThreads, None))

    def test_a_thread(self):
        program = Program([PAIR, LOOP])
        for value in [*odd_values(), 0, 1, "puts", "x", "open", ["put"], ("put",), b"put", PAIR]:
            for threads, index in (([value], 0), ((value,), 0), (["put", value], 1), (["put", "loop", value, 0], 2),
                                   (["put"] * 11 + [value], 11)):
                for call in (lambda x: Run(program, x), lambda x: next(all_runs(program, x, most=0))):
                    error = catch(call, threads)
                    with self.subTest(threads=threads):
                        self.assertEqual((error.__class__, error.index), (InvalidThreads, index))

    def test_events(self):
        program = Program([PAIR])
        for value in [*odd_values(), 0, 1, "x", {(0, 0): 1}, {(0, 0)}, iter([(0, 0)]), Run(program, ["put"])]:
            if not isinstance(value, (list, tuple)):
                error = catch(Run, program, ["put"], value)
                with self.subTest(value=value):
                    self.assertEqual((error.__class__, error.event), (NotPossible, None))

    def test_an_event(self):
        program = Program([PAIR])
        run = Run(program, ["put"])
        for value in [*odd_values(), *FORMS]:
            for events in ([value], (value,), [(0, 0), value], [(0, 0), (0, 1), value, (0, 0)]):
                error = catch(Run, program, ["put"], events)
                with self.subTest(events=events):
                    self.assertIs(error.__class__, NotPossible)
                    self.assertIs(error.event, value)
            error = catch(run.then, value)
            self.assertIs(error.__class__, NotPossible)
            self.assertIs(error.event, value)
        self.assertEqual(run, Run(program, ["put"]))

    def test_threads_come_before_events(self):
        program = Program([PAIR])
        for events in (None, [None], [(0, 0)] * 401, [(5, 5)]):
            error = catch(Run, program, ["put", "x"], events)
            self.assertEqual((error.__class__, error.index), (InvalidThreads, 1))
            error = catch(Run, program, None, events)
            self.assertEqual((error.__class__, error.index), (InvalidThreads, None))

    def test_four_hundred_events(self):
        program = Program([("spin", (("repeat", (("own",),)), ("own",)))])
        run = Run(program, ["spin", "spin"], [(0, 0), (1, 0)] * 200)
        self.assertEqual((len(run), run.next_events()), (400, []))
        for value in ((0, 0), (0, 1), None):
            error = catch(run.then, value)
            self.assertIs(error.__class__, NotPossible)
            self.assertIs(error.event, value)
        shorter = Run(program, ["spin", "spin"], [(0, 0), (1, 0)] * 199 + [(0, 0)])
        self.assertEqual(shorter.next_events(), [(0, 0), (0, 1), (1, 0), (1, 1)])
        self.assertEqual((shorter.then((1, 0)), shorter.then((1, 1)).next_events()), (run, []))
        for events in ([(0, 0)] * 401, ((0, 0),) * 401, [None] * 401):
            error = catch(Run, program, ["spin"], events)
            self.assertEqual((error.__class__, error.event), (NotPossible, None))
        self.assertEqual(len(Run(program, ["spin"], [(0, 0)] * 400)), 400)
        error = catch(Run, program, ["spin"], [(0, 0)] * 399 + [(0, 2)])
        self.assertEqual((error.__class__, error.event), (NotPossible, (0, 2)))


class WithoutTest(unittest.TestCase):
    def setUp(self):
        self.program = Program([PAIR, TWO, LOOP])
        self.threads = ["put", "two", "loop", "put"]
        self.events = [(3, 0), (1, 0), (0, 0), (1, 1), (3, 1), (1, 2), (1, 3), (2, 0), (0, 1), (2, 1)]
        self.whole = Run(self.program, self.threads, self.events)

    def test_some(self):
        self.assertEqual(self.whole.without(), self.whole)
        self.assertEqual(self.whole.without(0), Run(
            self.program, ["two", "loop", "put"],
            [(2, 0), (0, 0), (0, 1), (2, 1), (0, 2), (0, 3), (1, 0), (1, 1)]))
        self.assertEqual(self.whole.without(1, 2), Run(
            self.program, ["put", "put"], [(1, 0), (0, 0), (1, 1), (0, 1)]))
        for leaving in ((3, 1, 2), (1, 2, 3), (2, 2, 3, 1, 3)):
            self.assertEqual(self.whole.without(*leaving), Run(self.program, ["put"], [(0, 0), (0, 1)]))
        self.assertEqual(self.whole.without(1, 1, 1), self.whole.without(1))
        self.assertEqual(self.whole, Run(self.program, self.threads, self.events))

    def test_all_of_them(self):
        for leaving in ((0, 1, 2, 3), (3, 2, 1, 0), (0, 0, 1, 2, 2, 3)):
            error = catch(self.whole.without, *leaving)
            self.assertEqual((error.__class__, error.value), (InvalidThread, None))
        error = catch(Run(self.program, ["put"]).without, 0)
        self.assertEqual((error.__class__, error.value), (InvalidThread, None))

    def test_wrong_values(self):
        for value in [*odd_values(), "0", -1, 4, 10 ** 50, [0], (0,), [0, 1]]:
            for leaving in ((value,), (0, value), (0, 1, 2, 3, value), (value, 0, 1, 2, 3), (1, 1, value, None, 99)):
                error = catch(self.whole.without, *leaving)
                with self.subTest(leaving=leaving):
                    self.assertIs(error.__class__, InvalidThread)
                    self.assertIs(error.value, value)
        self.assertEqual(self.whole, Run(self.program, self.threads, self.events))


class AllRunsTest(unittest.TestCase):
    def test_second_answer(self):
        rows = random_rows(40, 12, most=6)
        for one, other in zip(rows, rows[1:]):
            program = Program([("a", one), ("b", other)])
            for threads, most in ((["a"], 5), (["a", "b"], 4), (["b", "a", "a"], 3)):
                with self.subTest(rows=(one, other), threads=threads):
                    found = list(all_runs(program, threads, most=most))
                    self.assertEqual([run.events for run in found], event_lists(program, threads, most))
                    self.assertTrue(all(run.threads == threads and run.program is program for run in found))

    def test_each_most(self):
        program = Program([PAIR])
        for most in range(8):
            lists = event_lists(program, ["put", "put"], min(most, 4))
            self.assertEqual([run.events for run in all_runs(program, ("put", "put"), most=most)], lists)
        self.assertEqual([run.events for run in all_runs(program, ["put"], most=0)], [[]])

    def test_left_out(self):
        program = Program([OPEN])
        self.assertEqual(list(all_runs(program, ["open"])), list(all_runs(program, ["open"], most=6)))
        self.assertEqual(max(len(run) for run in all_runs(program, ["open"])), 6)
        self.assertIsInstance(catch(all_runs, program, ["open"], 2), TypeError)

    def test_runs_are_like_others(self):
        program = Program([LOOP])
        for run in all_runs(program, ["loop", "loop"], most=5):
            self.assertIs(run.__class__, Run)
            self.assertEqual(run, Run(program, ["loop", "loop"], run.events))
            self.assertEqual(run.next_events(), Replay(program, ["loop", "loop"], run.events).possible())

    def test_generator(self):
        program = Program([PAIR])
        threads = ["put"]
        found = all_runs(program, threads, most=1)
        self.assertEqual(found.__class__.__name__, "generator")
        threads.append("put")
        self.assertEqual([run.threads for run in found], [["put", "put"]] * 3)
        found = all_runs(most=1, threads=threads, program=program)
        self.assertEqual(next(found).threads, ["put", "put"])
        threads.clear()
        self.assertEqual([run.events for run in found], [[(0, 0)], [(1, 0)]])
        late = all_runs(program, threads)
        error = catch(next, late)
        self.assertEqual((error.__class__, error.index), (InvalidThreads, None))
        self.assertIs(catch(next, all_runs(program, [Thing()])).__class__, InvalidThreads)
