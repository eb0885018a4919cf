"""[3] The guarantees, tried over small programs."""

import itertools
import random
import unittest

from unbrokenruns.chains import depends, passes, ring
from unbrokenruns.gathering import exchanged, exchanges
from unbrokenruns.plays import played
from unbrokenruns.programs import Program
from unbrokenruns.runs import Run, all_runs
from unbrokenruns.stretches import all_stretches
from tests.models import LOOP, MAZE, OPEN, catch, random_rows
from tests.slow import Replay, orders, stand_together

PAIR = ("put", (("read", "x"), ("write", "x")))


def random_runs(seed, most):
    """Runs of random programs of two kinds and of two to four threads."""
    rng = random.Random(seed)
    rows = [LOOP[1], MAZE[1], OPEN[1], PAIR[1], *random_rows(80, seed, most=9)]
    for one, other in zip(rows, rows[1:]):
        program = Program([("a", one), ("b", other)])
        for _ in range(2):
            run = Run(program, [rng.choice("ab") for _ in range(rng.randint(2, 4))])
            while len(run) < most and run.next_events():
                run = run.then(rng.choice(run.next_events()))
            yield run


def told(values):
    total = 1
    for value in values:
        total = total * 7 + value
    return total


class GuaranteeATest(unittest.TestCase):
    def test_threads_left_out_leave_a_run(self):
        for run in random_runs(41, 14):
            many = len(run.threads)
            for count in range(many):
                for leaving in itertools.combinations(range(many), count):
                    kept = [thread for thread in range(many) if thread not in leaving]
                    threads = [run.threads[thread] for thread in kept]
                    events = [(kept.index(thread), step) for thread, step in run.events if thread in kept]
                    self.assertIsNone(Replay(run.program, threads, events).fault)
                    self.assertEqual(run.without(*leaving), Run(run.program, threads, events))

    def test_exchanged_neighbours_play_alike(self):
        exchanges_seen = 0
        for run in random_runs(42, 14):
            for at in range(len(run) - 1):
                if not depends(run, at, at + 1):
                    exchanges_seen += 1
                    other = exchanged(run, at)
                    self.assertIsNone(Replay(run.program, run.threads, other.events).fault)
                    for rule in (len, sum, told):
                        for start in (None, {name: 3 for name in run.program.variables}):
                            self.assertEqual(played(run, rule, start=start), played(other, rule, start=start))
        self.assertGreater(exchanges_seen, 300)

    def test_dependent_neighbours_may_play_differently(self):
        run = Run(Program([PAIR]), ["put", "put"], [(0, 0), (0, 1), (1, 0)])
        other = Run(Program([PAIR]), ["put", "put"], [(0, 0), (1, 0), (0, 1)])
        self.assertNotEqual(played(run, len), played(other, len))


class GuaranteeBTest(unittest.TestCase):
    def check(self, run, passing):
        """A pass can be brought together by exchanges exactly if it has no ring."""
        reached = orders(run)
        possible = any(stand_together(order, passing[1]) for order in reached)
        self.assertIs(ring(run, passing) is None, possible)
        self.assertIs(catch(exchanges, run, passing) is None, possible)
        return possible

    def test_all_small_runs_of_small_programs(self):
        seen = [0, 0]
        programs = [[PAIR], [("a", (("read", "x"), ("read", "x"))), ("b", (("add", "x"),))],
                    [("a", (("add", "x"), ("take", "m"), ("give", "m"))), ("b", (("take", "m"), ("give", "m")))],
                    [("a", (("repeat", (("read", "x"),)),)), ("b", (("choose", (("write", "x"),), (("own",),)),))]]
        for kinds in programs:
            program = Program(kinds)
            stretches = [stretch for kind in program.kinds for stretch in all_stretches(program, kind)]
            for threads in itertools.combinations_with_replacement(program.kinds, 3):
                for run in all_runs(program, list(threads), most=5):
                    for stretch in stretches:
                        for passing in passes(run, stretch):
                            if len(passing[1]) > 1:
                                seen[self.check(run, passing)] += 1
        self.assertGreater(min(seen), 100)

    def test_random_runs(self):
        seen = [0, 0]
        for run in random_runs(43, 7):
            for kind in run.program.kinds:
                for stretch in all_stretches(run.program, kind):
                    for passing in passes(run, stretch):
                        if len(passing[1]) > 1:
                            seen[self.check(run, passing)] += 1
        self.assertGreater(min(seen), 30)
