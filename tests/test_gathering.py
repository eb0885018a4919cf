"""[21] Exchanges of neighbouring events and gathered runs."""

import itertools
import random
import unittest

from unbrokenruns.chains import ring
from unbrokenruns.errors import Broken, Dependent, InvalidPass, InvalidPosition
from unbrokenruns.gathering import exchanged, exchanges, gathered, is_gathering
from unbrokenruns.programs import Program
from unbrokenruns.runs import Run
from tests.models import LOOP, OPEN, catch, odd_values, random_rows
from tests.slow import all_chains, all_rings, directly, orders, slices, smallest, stand_together

PAIR = ("put", (("read", "x"), ("write", "x")))


def small_runs(many, most, seed):
    """Some runs of a few events of two or three threads."""
    rng = random.Random(seed)
    rows = [LOOP[1], OPEN[1], *random_rows(many, seed, most=8)]
    found = []
    for one, other in zip(rows, rows[1:]):
        program = Program([("a", one), ("b", other)])
        run = Run(program, ["a", rng.choice("ab"), rng.choice("ab")])
        while len(run) < most and run.next_events():
            run = run.then(rng.choice(run.next_events()))
        found.append(run)
    return found


def rest_of(run, order):
    """The run with the events of a run in another order."""
    return Run(run.program, run.threads, [run.events[at] for at in order])


def gathered_order(run, positions):
    """The order that [21] describes."""
    hangs = [at for at in range(len(run)) if any(all_chains(run, first, at) for first in positions)]
    first = [at for at in range(len(run)) if at not in positions and at not in hangs]
    return (*first, *positions, *[at for at in range(len(run)) if at not in first and at not in positions])


def led(run, positions):
    """The run to which exchanges at these positions lead."""
    for position in positions:
        run = exchanged(run, position)
    return run


class ExchangedTest(unittest.TestCase):
    def test_every_position(self):
        for run in small_runs(80, 9, 31):
            before = run.events
            for at in range(len(run) - 1):
                if directly(run, at, at + 1):
                    error = catch(exchanged, run, at)
                    self.assertEqual((error.__class__, error.position), (Dependent, at))
                else:
                    order = [*range(at), at + 1, at, *range(at + 2, len(run))]
                    self.assertEqual(exchanged(run, at), rest_of(run, order))
            self.assertEqual(run.events, before)

    def test_wrong_values(self):
        program = Program([PAIR])
        for run in (Run(program, ["put", "put", "put"], [(0, 0), (1, 0), (2, 0)]), Run(program, ["put"])):
            for value in [*odd_values(), "0", -1, 3, max(len(run) - 1, 0), 10 ** 50, -10 ** 50, [0], (0,)]:
                error = catch(exchanged, run, value)
                with self.subTest(value=value):
                    self.assertIs(error.__class__, InvalidPosition)
                    self.assertIs(error.value, value)

    def test_examples(self):
        run = Run(Program([PAIR]), ["put", "put", "put"], [(0, 0), (1, 0), (2, 0), (1, 1)])
        self.assertEqual(exchanged(run, 0).events, [(1, 0), (0, 0), (2, 0), (1, 1)])
        self.assertEqual(exchanged(position=1, run=run).events, [(0, 0), (2, 0), (1, 0), (1, 1)])
        error = catch(exchanged, run, 2)
        self.assertEqual((error.__class__, error.position), (Dependent, 2))
        self.assertEqual(exchanged(run, 0).threads, run.threads)
        self.assertIs(exchanged(run, 0).program, run.program)


class GatheredTest(unittest.TestCase):
    def test_second_answer(self):
        seen = [0, 0]
        for run in small_runs(150, 7, 32):
            reached = orders(run)
            for passing in slices(run):
                rings = all_rings(run, passing[1])
                seen[bool(rings)] += 1
                with self.subTest(events=run.events, passing=passing):
                    if rings:
                        for call in (gathered, exchanges):
                            error = catch(call, run, passing)
                            self.assertEqual((error.__class__, error.ring), (Broken, smallest(rings)))
                    else:
                        order = gathered_order(run, passing[1])
                        self.assertEqual(gathered(run, passing), rest_of(run, order))
                        found = exchanges(run, passing)
                        self.assertEqual(led(run, found), gathered(run, passing))
                        self.assertEqual(len(found), reached[order])
                        self.assertTrue(is_gathering(run, passing, found))
        self.assertGreater(min(seen), 30)

    def test_examples(self):
        run = Run(Program([PAIR]), ["put", "put"], [(0, 0), (1, 0), (0, 1)])
        self.assertEqual([exchanges(run, (0, [0, 2])), gathered(run, (0, [0, 2])).events],
                         [[0], [(1, 0), (0, 0), (0, 1)]])
        self.assertEqual(exchanges(passing=(0, [0, 2]), run=run), [0])
        self.assertEqual(gathered(passing=(0, [0, 2]), run=run).events, [(1, 0), (0, 0), (0, 1)])
        broken = Run(Program([PAIR]), ["put", "put"], [(0, 0), (1, 0), (1, 1), (0, 1)])
        for call in (gathered, exchanges):
            error = catch(call, broken, (0, [0, 3]))
            self.assertEqual((error.__class__, error.ring), (Broken, [0, 2, 3]))

    def test_fewer_exchanges_may_bring_a_pass_together(self):
        program = Program([("a", (("own",), ("own",))), ("b", (("own",),))])
        run = Run(program, ["a", "b", "b"], [(0, 0), (0, 1), (1, 0), (2, 0)])
        self.assertEqual((gathered(run, (0, [0, 1])).events, len(exchanges(run, (0, [0, 1])))),
                         ([(1, 0), (2, 0), (0, 0), (0, 1)], 4))
        self.assertIs(is_gathering(run, (0, [0, 1]), []), True)

    def test_long_runs(self):
        program = Program([("a", (("repeat", (("own",),)),))])
        run = Run(program, ["a", "a"], [(0, 0)] * 200 + [(1, 0)] * 200)
        found = exchanges(run, (0, list(range(200))))
        self.assertEqual(len(found), 40000)
        self.assertEqual(gathered(run, (0, list(range(200)))).events, [(1, 0)] * 200 + [(0, 0)] * 200)
        self.assertIs(is_gathering(run, (0, list(range(200))), found), True)
        self.assertIs(is_gathering(run, (0, list(range(200))), found[:-1]), False)


class IsGatheringTest(unittest.TestCase):
    def test_all_short_lists(self):
        for run in small_runs(25, 5, 33):
            for passing in slices(run):
                for many in range(4):
                    for value in itertools.product(range(-1, len(run)), repeat=many):
                        order = list(range(len(run)))
                        for at in value:
                            if not 0 <= at < len(run) - 1 or directly(rest_of(run, order), at, at + 1):
                                order = None
                                break
                            order[at:at + 2] = [order[at + 1], order[at]]
                        expected = order is not None and stand_together(order, passing[1])
                        self.assertIs(is_gathering(run, passing, list(value)), expected)

    def test_other_orders(self):
        program = Program([("a", (("own",), ("own",))), ("b", (("own",),))])
        run = Run(program, ["a", "b", "b"], [(0, 0), (1, 0), (2, 0), (0, 1)])
        for value, expected in (([0, 1], True), ([1, 0, 1], True), ([2, 1], True), ([0, 2], True), ([0], False),
                                ([0, 1, 0, 1], False), ([0, 1, 1], False), ([0, 1, 2], False), ([], False),
                                ([0, 0, 2, 1], True), ([0, 1, 0], True), ([2, 1, 0], False)):
            with self.subTest(value=value):
                self.assertIs(is_gathering(run, (0, [0, 3]), value), expected)
        self.assertIs(is_gathering(value=[0, 1], passing=(0, [0, 3]), run=run), True)
        self.assertIs(is_gathering(run, (0, [3]), []), True)

    def test_any_value(self):
        run = Run(Program([PAIR]), ["put", "put"], [(0, 0), (1, 0), (0, 1)])
        self.assertIs(is_gathering(run, (0, [0, 2]), [0]), True)
        for value in [*odd_values(), 0, (0,), {0}, {0: 0}, "0", ["0"], [None], [True], [False], [[0]],
                      [(0,)], [1], [2], [3], [-1], [-3], [0, 1], [0, 2], [0, -1], [0, 10 ** 50], [10 ** 50], [0, None],
                      iter([0]), range(1)]:
            if value != [0]:
                with self.subTest(value=value):
                    self.assertIs(is_gathering(run, (0, [0, 2]), value), False)
        value = [0]
        is_gathering(run, (0, [0, 2]), value)
        self.assertEqual(value, [0])

    def test_broken_passes(self):
        run = Run(Program([PAIR]), ["put", "put"], [(0, 0), (1, 0), (1, 1), (0, 1)])
        for many in range(5):
            for value in itertools.product(range(4), repeat=many):
                self.assertIs(is_gathering(run, (0, [0, 3]), list(value)), False)


class ErrorsTest(unittest.TestCase):
    def test_invalid_passes(self):
        run = Run(Program([("a", (("write", "x"),) * 3)]), ["a", "a"], [(0, 0), (1, 0), (0, 1), (1, 1), (0, 2)])
        for value in [*odd_values(), 0, [0, [0, 2]], (0,), (0, []), (0, (0, 2)), (0, [0, 4]), (0, [2, 0]), (0, [0, 0]),
                      (1, [0]), (2, [0]), (True, [1]), (0, [False]), (0, [5]), (0, [-1]), (0, [0, 2], 3), (0, 0)]:
            for call in (gathered, exchanges, lambda run, value: is_gathering(run, value, [])):
                error = catch(call, run, value)
                with self.subTest(value=value):
                    self.assertIs(error.__class__, InvalidPass)
                    self.assertIs(error.value, value)
        self.assertIsNotNone(ring(run, (0, [0, 2])))

    def test_nothing_changes(self):
        run = Run(Program([PAIR]), ["put", "put"], [(0, 0), (1, 0), (0, 1)])
        passing = (0, [0, 2])
        exchanges(run, passing).clear()
        gathered(run, passing).events.clear()
        is_gathering(run, passing, [0])
        catch(exchanged, run, 2)
        self.assertEqual((run.events, passing), ([(0, 0), (1, 0), (0, 1)], (0, [0, 2])))
        self.assertEqual(exchanges(run, passing), [0])
