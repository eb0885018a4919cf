"""[19] Plays: runs on integers."""

import itertools
import random
import unittest

from unbrokenruns.plays import played
from unbrokenruns.programs import Program
from unbrokenruns.runs import Run, all_runs
from tests.models import LOOP, MAZE, random_rows
from tests.slow import doings

PAIR = ("put", (("read", "x"), ("write", "x")))


def told(values):
    """A rule whose result tells all values that were read, in their order."""
    total = 1
    for value in values:
        total = total * 7 + value
    return total


def last_first(values):
    return 10 * len(values) - (values[0] if values else 3)


RULES = [len, sum, told, last_first, lambda values: -1, lambda values: 10 ** 40 + len(values)]


def slow_play(run, rule, start):
    """What each thread reads and the values at the end, by going back from each event to those before it."""
    done = doings(run)
    begin = start or {}

    def value_before(variable, position):
        """The value of a variable before a position."""
        for at in reversed(range(position)):
            thread, step = done[at]
            if step == ("write", variable):
                return rule(tuple(reads_before(thread, at)))
            if step == ("add", variable):
                return value_before(variable, at) + rule(tuple(reads_before(thread, at)))
        return begin.get(variable, 0)

    def reads_before(thread, position):
        return [value_before(done[at][1][1], at) for at in range(position)
                if done[at][0] == thread and done[at][1][0] == "read"]

    return ([reads_before(thread, len(done)) for thread in range(len(run.threads))],
            {variable: value_before(variable, len(done)) for variable in run.program.variables})


class PlayedTest(unittest.TestCase):
    def test_second_answer(self):
        rng = random.Random(3)
        rows = random_rows(60, 13, most=8)
        for one, other in zip(rows, rows[1:]):
            program = Program([("a", one), ("b", other)])
            run = Run(program, ["a", "b", "a"])
            while len(run) < 12 and run.next_events():
                run = run.then(rng.choice(run.next_events()))
            starts = [None, {}, {variable: 5 for variable in program.variables},
                      {variable: -at for at, variable in enumerate(program.variables[1:])}]
            for rule, start in itertools.product(RULES, starts):
                self.assertEqual(played(run, rule, start=start), slow_play(run, rule, start))

    def test_all_short_runs(self):
        program = Program([("a", (("read", "x"), ("add", "y"))), ("b", (("read", "y"), ("write", "x"), ("read", "x")))])
        for run in all_runs(program, ["a", "b", "b"], most=5):
            for rule in RULES:
                self.assertEqual(played(run, rule, start={"y": 2}), slow_play(run, rule, {"y": 2}))

    def test_example(self):
        run = Run(Program([PAIR]), ["put", "put"], [(0, 0), (1, 0), (1, 1), (0, 1)])
        self.assertEqual(played(run, len, start={"x": 5}), ([[5], [5]], {"x": 1}))
        self.assertEqual(played(rule=sum, start={"x": 5}, run=run), ([[5], [5]], {"x": 5}))
        self.assertEqual(played(run, len), ([[0], [0]], {"x": 1}))

    def test_adding_up_what_was_read(self):
        program = Program([("a", (("read", "x"), ("read", "y"), ("add", "x"), ("read", "x"), ("write", "y")))])
        run = Run(program, ["a", "a"], [(0, 0), (0, 1), (1, 0), (0, 2), (1, 1), (0, 3), (1, 2), (0, 4), (1, 3)])
        self.assertEqual(played(run, sum, start={"x": 3, "y": 4}),
                         ([[3, 4, 10], [3, 4, 17]], {"x": 17, "y": 17}))

    def test_the_rule_gets_a_tuple_for_each_write_and_add(self):
        program = Program([("a", (("read", "x"), ("own",), ("add", "x"), ("take", "m"), ("read", "x"), ("write", "y"),
                                  ("give", "m")))])
        calls = []

        def rule(values):
            calls.append(values)
            return 2

        run = Run(program, ["a"], [(0, number) for number in range(7)])
        self.assertEqual(played(run, rule, start={"x": 1}), ([[1, 3]], {"x": 3, "y": 2}))
        self.assertEqual(calls, [(1,), (1, 3)])
        self.assertTrue(all(values.__class__ is tuple for values in calls))

    def test_variables_that_no_step_of_the_run_touches(self):
        program = Program([PAIR, MAZE, ("other", (("add", "z"), ("read", "a")))])
        run = Run(program, ["put"], [(0, 0), (0, 1)])
        self.assertEqual(played(run, len), ([[0]], {"a": 0, "x": 1, "y": 0, "z": 0}))
        self.assertEqual(played(run, len, start={"z": 9, "y": -2}), ([[0]], {"a": 0, "x": 1, "y": -2, "z": 9}))
        self.assertEqual(played(Run(program, ["maze", "put"]), len, start={"a": 1, "x": 2, "y": 3, "z": 4}),
                         ([[], []], {"a": 1, "x": 2, "y": 3, "z": 4}))
        self.assertEqual(played(Run(Program([("o", (("own",),))]), ["o"]), len), ([[]], {}))

    def test_start_stays_as_it_was_and_results_are_new(self):
        program = Program([PAIR, LOOP])
        run = Run(program, ["put", "loop"], [(0, 0), (0, 1)])
        start = {"x": 5}
        reads, values = played(run, sum, start=start)
        self.assertEqual((start, reads, values), ({"x": 5}, [[5], []], {"x": 5}))
        values["x"] = 8
        reads[0].append(1)
        reads.clear()
        self.assertEqual(start, {"x": 5})
        self.assertEqual(played(run, sum, start=start), ([[5], []], {"x": 5}))
        self.assertIs(played(run, sum).__class__, tuple)

    def test_start_is_by_name_only(self):
        run = Run(Program([PAIR]), ["put"])
        with self.assertRaises(TypeError):
            played(run, len, {"x": 5})
