"""[20] Chains, passes and rings, with the definitions of [9] and [10]."""

import itertools
import random
import unittest

from unbrokenruns.chains import chain, conflicts, depends, hanging, is_ring, passes, ring
from unbrokenruns.errors import InvalidPass, InvalidPosition
from unbrokenruns.programs import Program
from unbrokenruns.runs import Run, all_runs
from unbrokenruns.stretches import Stretch, all_stretches
from tests.models import LOOP, MAZE, NESTED, OPEN, catch, odd_values, random_rows
from tests.slow import all_chains, all_passes, all_rings, directly, in_conflict, slices, smallest

OWN = ("own",)
PAIR = ("put", (("read", "x"), ("write", "x")))
STEPS = [OWN] + [(word, name) for word in ("read", "write", "add") for name in "xy"] + [
    (word, name) for word in ("take", "give") for name in "mn"]


def small_runs(many=60, seed=21):
    """Some runs of up to nine events of two or three threads."""
    rng = random.Random(seed)
    rows = [LOOP[1], MAZE[1], OPEN[1], *random_rows(many, seed, most=8)]
    found = []
    for one, other in zip(rows, rows[1:]):
        program = Program([("a", one), ("b", other)])
        run = Run(program, ["a", rng.choice("ab"), rng.choice("ab")])
        while len(run) < 9 and run.next_events():
            run = run.then(rng.choice(run.next_events()))
        found.append(run)
    return found


class DependsTest(unittest.TestCase):
    def test_conflicts_of_all_pairs_of_steps(self):
        for one, other in itertools.product(STEPS, STEPS):
            self.assertIs(conflicts(one, other), in_conflict(one, other))

    def test_conflicts(self):
        for one, other, expected in [
                (("read", "x"), ("read", "x"), False), (("add", "x"), ("add", "x"), False),
                (("write", "x"), ("write", "x"), True), (("read", "x"), ("add", "x"), True),
                (("read", "x"), ("write", "x"), True), (("add", "x"), ("write", "x"), True),
                (("read", "x"), ("write", "y"), False), (("write", "x"), ("write", "y"), False),
                (("take", "m"), ("take", "m"), True), (("give", "m"), ("take", "m"), True),
                (("give", "m"), ("give", "m"), True), (("give", "m"), ("take", "n"), False),
                (OWN, OWN, False), (OWN, ("write", "own"), False)]:
            self.assertIs(conflicts(one, other), expected)
            self.assertIs(conflicts(other, one), expected)
        self.assertIs(conflicts(other=("add", "x"), one=("read", "x")), True)

    def test_depends_for_all_pairs(self):
        for run in small_runs():
            for first, second in itertools.product(range(len(run)), repeat=2):
                self.assertIs(depends(run, first, second), directly(run, first, second))
        run = Run(Program([PAIR]), ["put", "put"], [(0, 0), (1, 0), (1, 1)])
        self.assertEqual([depends(run, 0, 0), depends(run, 0, 1), depends(run, 2, 0), depends(run, 2, 1)],
                         [False, False, True, True])
        self.assertIs(depends(second=2, run=run, first=0), True)


class ChainTest(unittest.TestCase):
    def test_second_answer(self):
        for run in small_runs():
            for first, second in itertools.product(range(len(run)), repeat=2):
                with self.subTest(events=run.events, first=first, second=second):
                    self.assertEqual(chain(run, first, second), smallest(all_chains(run, first, second)))

    def test_equal_and_descending(self):
        run = Run(Program([PAIR]), ["put", "put"], [(0, 0), (1, 0), (1, 1), (0, 1)])
        self.assertEqual([chain(run, 2, 2), chain(run, 3, 0), chain(run, 0, 1), chain(run, 1, 3)],
                         [[2], None, None, [1, 3]])
        self.assertEqual(chain(second=3, first=0, run=run), [0, 3])

    def test_the_smallest_of_several_shortest_ones(self):
        program = Program([("a", (("add", "x"),)), ("b", (("read", "x"), ("read", "y"))), ("c", (("add", "y"),))])
        run = Run(program, ["a", "b", "b", "c"], [(0, 0), (1, 0), (2, 0), (2, 1), (1, 1), (3, 0)])
        self.assertEqual(all_chains(run, 0, 5), [[0, 1, 4, 5], [0, 2, 3, 5]])
        self.assertEqual([chain(run, 0, 5), chain(run, 0, 3), chain(run, 1, 3)], [[0, 1, 4, 5], [0, 2, 3], None])

    def test_a_shorter_chain_comes_before_a_smaller_one(self):
        program = Program([("a", (("write", "x"), ("write", "x"), ("own",)))])
        run = Run(program, ["a", "a"], [(0, 0), (1, 0), (0, 1), (1, 1), (0, 2), (1, 2)])
        self.assertEqual([chain(run, 0, 5), chain(run, 0, 4), chain(run, 0, 3)], [[0, 1, 5], [0, 4], [0, 3]])

    def test_long_runs(self):
        program = Program([("a", (("repeat", (("write", "x"), ("read", "y"))),))])
        run = Run(program, ["a"], [(0, number) for number in (0, 1)] * 200)
        self.assertEqual([chain(run, 0, 399), chain(run, 399, 399), ring(run, (0, [7, 8]))], [[0, 399], [399], None])


class HangingTest(unittest.TestCase):
    def test_second_answer(self):
        rng = random.Random(4)
        for run in small_runs(30):
            for many in (0, 1, 2, 3, 12):
                given = [rng.randrange(len(run)) for _ in range(many)]
                copy = list(given)
                expected = [at for at in range(len(run)) if any(all_chains(run, first, at) for first in given)]
                self.assertEqual(hanging(run, given), expected)
                self.assertEqual(hanging(run, given[::-1] + given), expected)
                self.assertEqual(given, copy)

    def test_examples(self):
        run = Run(Program([PAIR]), ["put", "put"], [(0, 0), (1, 0), (1, 1), (0, 1)])
        self.assertEqual([hanging(run, []), hanging(run, [0]), hanging(run, [1, 1]), hanging(run, [3, 2, 3])],
                         [[], [0, 2, 3], [1, 2, 3], [2, 3]])
        self.assertEqual(hanging(positions=[3], run=run), [3])
        given = [3]
        hanging(run, given).append(1)
        self.assertEqual(given, [3])
        self.assertEqual(hanging(Run(Program([PAIR]), ["put"]), []), [])


class PassesTest(unittest.TestCase):
    def test_second_answer(self):
        rng = random.Random(5)
        rows = [LOOP[1], MAZE[1], NESTED[1], OPEN[1], *random_rows(60, 22, most=9)]
        for one, other in zip(rows, rows[1:]):
            program = Program([("a", one), ("b", other)])
            stretches = [*all_stretches(program, "a"), *all_stretches(program, "b")]
            for _ in range(3):
                run = Run(program, ["a", "b", "a", "b"])
                while len(run) < 30 and run.next_events():
                    run = run.then(rng.choice(run.next_events()))
                for stretch in stretches:
                    self.assertEqual(passes(run, stretch), all_passes(run, stretch))

    def test_going_around(self):
        program = Program([("a", (("repeat", (OWN, OWN)), OWN))])
        run = Run(program, ["a"], [(0, 0), (0, 1), (0, 0), (0, 1), (0, 2)])
        self.assertEqual(passes(run, Stretch(program, "a", ((0, 0),), 0, 2)), [(0, [0, 1]), (0, [2, 3])])
        self.assertEqual(passes(run, Stretch(program, "a", ((0, 0),), 0, 1)), [(0, [0]), (0, [2])])
        self.assertEqual(passes(run, Stretch(program, "a", (), 0, 1)), [(0, [0, 1, 2, 3])])
        self.assertEqual(passes(run, Stretch(program, "a", (), 0, 2)), [(0, [0, 1, 2, 3, 4])])
        self.assertEqual(passes(run, Stretch(program, "a", (), 1, 2)), [(0, [4])])

    def test_going_around_a_repeat_that_contains_the_row(self):
        program = Program([("a", (("repeat", (("choose", (OWN, OWN), (OWN,)),)),))])
        run = Run(program, ["a"], [(0, 0), (0, 1), (0, 0), (0, 1), (0, 2)])
        self.assertEqual(passes(run, Stretch(program, "a", ((0, 0), (0, 0)), 0, 2)), [(0, [0, 1]), (0, [2, 3])])
        self.assertEqual(passes(run, Stretch(program, "a", ((0, 0),), 0, 1)), [(0, [0, 1]), (0, [2, 3]), (0, [4])])
        self.assertEqual(passes(run, Stretch(program, "a", (), 0, 1)), [(0, [0, 1, 2, 3, 4])])

    def test_several_threads_and_kinds(self):
        program = Program([PAIR, ("other", (("read", "x"), ("write", "x")))])
        run = Run(program, ["put", "other", "put"], [(2, 0), (1, 0), (0, 0), (1, 1), (2, 1)])
        self.assertEqual(passes(run, Stretch(program, "put", (), 0, 2)), [(2, [0, 4]), (0, [2])])
        self.assertEqual(passes(run, Stretch(program, "put", (), 1, 2)), [(2, [4])])
        self.assertEqual(passes(stretch=Stretch(program, "other", (), 0, 1), run=run), [(1, [1])])
        found = passes(run, Stretch(program, "put", (), 0, 2))
        found[0][1].clear()
        found.clear()
        self.assertEqual(passes(run, Stretch(program, "put", (), 0, 2)), [(2, [0, 4]), (0, [2])])
        self.assertEqual(passes(Run(program, ["put"]), Stretch(program, "put", (), 0, 2)), [])


class RingTest(unittest.TestCase):
    def test_second_answer(self):
        seen = [0, 0]
        for run in small_runs(120, 23):
            for passing in slices(run):
                rings = all_rings(run, passing[1])
                seen[bool(rings)] += 1
                with self.subTest(events=run.events, passing=passing):
                    self.assertEqual(ring(run, passing), smallest(rings))
        self.assertGreater(min(seen), 100)

    def test_the_smallest_of_several_shortest_ones(self):
        program = Program([("a", (("add", "x"), ("add", "x"), ("add", "x"))), ("b", (("read", "x"),))])
        run = Run(program, ["a", "b", "b", "b"], [(0, 0), (3, 0), (1, 0), (0, 1), (2, 0), (0, 2)])
        self.assertEqual([ring(run, (0, [0, 3, 5])), ring(run, (0, [0, 3])), ring(run, (0, [3, 5]))],
                         [[0, 1, 3], [0, 1, 3], [3, 4, 5]])

    def test_a_shorter_ring_comes_before_a_smaller_one(self):
        program = Program([("a", (("add", "y"), ("add", "x"), ("add", "x"), ("add", "z"))), ("b", (("read", "x"),)),
                           ("c", (("read", "y"), ("read", "z")))])
        run = Run(program, ["a", "b", "c"], [(0, 0), (2, 0), (0, 1), (1, 0), (0, 2), (2, 1), (0, 3)])
        self.assertEqual(ring(run, (0, [0, 2, 4, 6])), [2, 3, 4])
        self.assertEqual(ring(run.without(1), (0, [0, 2, 3, 5])), [0, 1, 4, 5])
        self.assertIs(is_ring(run, (0, [0, 2, 4, 6]), [0, 1, 5, 6]), True)

    def test_examples(self):
        run = Run(Program([PAIR]), ["put", "put"], [(0, 0), (1, 0), (1, 1), (0, 1)])
        self.assertEqual([ring(run, (0, [0, 3])), ring(run, (1, [1, 2])), ring(run, (0, [3]))],
                         [[0, 2, 3], None, None])
        self.assertEqual(ring(passing=(0, [0, 3]), run=run), [0, 2, 3])
        self.assertIs(is_ring(value=[0, 2, 3], passing=(0, [0, 3]), run=run), True)

    def test_events_of_the_thread_before_and_behind_the_pass_are_no_ring(self):
        program = Program([("a", (("write", "x"),) * 4)])
        run = Run(program, ["a", "a"], [(0, 0), (1, 0), (0, 1), (0, 2), (1, 1), (0, 3)])
        self.assertEqual([ring(run, (0, [2, 3])), ring(run, (0, [0, 2])), ring(run, (0, [2, 3, 5]))],
                         [None, [0, 1, 2], [2, 4, 5]])
        self.assertIs(is_ring(run, (0, [0, 2, 3]), [0, 1, 2]), True)
        self.assertIs(is_ring(run, (0, [2, 3]), [0, 1, 2]), False)
        self.assertEqual(is_ring(run, (0, [2, 3, 5]), [2, 3, 4, 5]), False)

    def test_is_ring_of_all_short_lists(self):
        for run in small_runs(25, 24):
            many = min(len(run), 6)
            for passing in slices(run):
                rings = all_rings(run, passing[1])
                self.assertTrue(all(is_ring(run, passing, found) for found in rings))
                if len(passing[1]) > 1:
                    for length in range(5):
                        for value in itertools.product(range(many), repeat=length):
                            self.assertIs(is_ring(run, passing, list(value)), list(value) in rings)

    def test_is_ring_of_any_value(self):
        run = Run(Program([PAIR]), ["put", "put"], [(0, 0), (1, 0), (1, 1), (0, 1)])
        for value in [*odd_values(), 0, (0, 2, 3), [0, 2], [0, 3], [0, 2, 3, 3], [0, 2, 2, 3], [0, 0, 2, 3], [3, 2, 0],
                      [0, 2, "3"], [False, 2, 3], [0, 2, None], [0, 2, 4], [-4, 2, 3], [0, -2, 3], [0, 2, -1],
                      [0, [2], 3], [0, 1, 3], [0, 1, 2, 3], [[0, 2, 3]], [0, 2, 10 ** 50], "023", {0: 1, 2: 1, 3: 1},
                      iter([0, 2, 3])]:
            with self.subTest(value=value):
                self.assertIs(is_ring(run, (0, [0, 3]), value), False)
        value = [0, 2, 3]
        self.assertIs(is_ring(run, (0, [0, 3]), value), True)
        self.assertEqual(value, [0, 2, 3])


class ErrorsTest(unittest.TestCase):
    def setUp(self):
        self.run_of_two = Run(Program([PAIR]), ["put", "put"], [(0, 0), (1, 0), (1, 1), (0, 1)])

    def test_positions(self):
        for value in [*odd_values(), "0", -1, 4, 10 ** 50, -10 ** 50, [0], (0,)]:
            for call in (depends, chain):
                for first, second in ((value, 0), (0, value), (value, None), (value, 99), (value, value)):
                    error = catch(call, self.run_of_two, first, second)
                    with self.subTest(first=first, second=second):
                        self.assertIs(error.__class__, InvalidPosition)
                        self.assertIs(error.value, value)
                error = catch(call, Run(Program([PAIR]), ["put"]), 0, value)
                self.assertEqual((error.__class__, error.value), (InvalidPosition, 0))

    def test_passes_that_are_none(self):
        program = Program([("a", (("write", "x"),) * 3)])
        run = Run(program, ["a", "a"], [(0, 0), (1, 0), (0, 1), (1, 1), (0, 2)])
        wrong = [*odd_values(), 0, "0", [0, [0, 2]], (0,), (0, [0], 1), (0, []), (0, ()), (0, (0, 2)), (0, [0, 0]),
                 (0, [2, 0]), (0, [0, 4]), (0, [0, 1]), (0, [1]), (0, [0, 1, 2]), (1, [0]), (2, [0]), (-1, [0]),
                 (True, [1]), (False, [0]), (None, [0]), ("0", [0]), ([0], [0]), (0, [False]), (1, [True, 3]),
                 (0, [0, True]), (0, [0, "2"]), (0, [0, None]), (0, [[0]]), (0, 0), (0, "0"), (0, {0: 2}), (0, {0}),
                 (0, [5]), (0, [-1]), (0, [0, 2, 4, 5]), (0, [4, 2, 0]), (0, [0, 2, 2, 4]), (10 ** 50, [0]),
                 (0, [10 ** 50]), (0, iter([0])), (0, range(1))]
        for value in wrong:
            for call in (ring, lambda run, passing: is_ring(run, passing, [0, 1, 2])):
                error = catch(call, run, value)
                with self.subTest(value=value):
                    self.assertIs(error.__class__, InvalidPass)
                    self.assertIs(error.value, value)
        for value in slices(run):
            self.assertIsNone(catch(ring, run, value))
            self.assertIsNone(catch(is_ring, run, value, None))

    def test_all_tuples_of_a_small_run(self):
        for run in all_runs(Program([PAIR]), ["put", "put"], most=4):
            good = slices(run)
            for thread in range(3):
                for many in range(4):
                    for positions in itertools.product(range(5), repeat=many):
                        value = (thread, list(positions))
                        error = catch(ring, run, value)
                        self.assertEqual(error is None, value in good)

    def test_a_wrong_call_changes_nothing(self):
        before = self.run_of_two.events
        value = (0, [0, 2])
        catch(ring, self.run_of_two, value)
        catch(chain, self.run_of_two, 0, 9)
        self.assertEqual((self.run_of_two.events, value), (before, (0, [0, 2])))
