"""[25] Bad pairs and largest unbroken stretches, with the definition of [11]."""

import itertools
import unittest

from unbrokenruns.errors import UnknownKind
from unbrokenruns.pairs import bad_pairs, holds, largest_unbroken, unbroken_stretches
from unbrokenruns.programs import Program
from unbrokenruns.search import most_others
from unbrokenruns.stretches import Stretch, all_stretches
from unbrokenruns.tables import is_unbroken
from tests.models import LOOP, MAZE, catch, odd_values
from tests.slow import repeat_of
from tests.slow_states import crowd_pairs, small_programs

OWN = ("own",)
THREE = Program([("b", (("read", "x"), ("read", "y"))), ("c", (("write", "x"),)), ("d", (("write", "y"),))])
SPIN = Program([("spin", (("repeat", (("add", "x"),)),)), ("look", (("read", "x"),))])


class BadPairsTest(unittest.TestCase):
    def test_against_all_runs(self):
        programs = (small_programs(60, 91, 2, 4, names=("x",), locks=()) + small_programs(12, 92, 2, 4, locks=())
                    + small_programs(80, 93, 2, 5, names=("x",), locks=("m",)))
        many = 0
        for program in programs:
            for kind in program.kinds:
                found = bad_pairs(program, kind)
                many += len(found)
                with self.subTest(rows=[program.row(name) for name in program.kinds], kind=kind):
                    self.assertEqual(found, crowd_pairs(program, kind, most_others(program)))
        self.assertGreater(many, 200)

    def test_two_locks_and_few_threads(self):
        for program in small_programs(12, 94, 2, 6, names=("x",)):
            for kind in program.kinds:
                self.assertLessEqual(set(crowd_pairs(program, kind, 2)), set(bad_pairs(program, kind)))

    def test_examples(self):
        self.assertEqual(bad_pairs(THREE, "b"), [(0, 1, False)])
        self.assertEqual([bad_pairs(SPIN, "spin"), bad_pairs(SPIN, "look")], [[(0, 0, True)], []])
        self.assertEqual(bad_pairs(kind="spin", program=SPIN), [(0, 0, True)])

    def test_steps_around_the_bad_ones(self):
        program = Program([("a", (OWN, ("read", "x"), OWN, ("write", "x"), OWN)), ("b", (OWN,))])
        self.assertEqual(bad_pairs(program, "a"), [(first, second, False) for first in (0, 1) for second in (3, 4)])
        self.assertEqual(bad_pairs(program, "b"), [])

    def test_around(self):
        program = Program([("a", (("repeat", (("read", "x"), OWN, ("read", "x"))), OWN)), ("b", (("write", "x"),))])
        expected = [(first, second, True) for first in (0, 1, 2) for second in (0, 1, 2)]
        expected += [(0, 2, False), (0, 3, False), (1, 3, False), (2, 3, False)]
        self.assertEqual(bad_pairs(program, "a"), sorted(expected))

    def test_rows_of_a_choose(self):
        row = (("choose", (("read", "x"),), (OWN,)), ("choose", (("write", "x"),), (OWN,)))
        self.assertEqual(bad_pairs(Program([("a", row)]), "a"), [(0, 2, False)])
        around = (("repeat", (("choose", (("read", "x"),), (("write", "x"),)),)),)
        self.assertEqual(bad_pairs(Program([("a", around)]), "a"),
                         [(0, 0, True), (0, 1, True), (1, 0, True), (1, 1, True)])

    def test_locks_in_the_way(self):
        guarded = Program([("a", (("take", "m"), ("read", "x"), ("write", "x"), ("give", "m")))])
        self.assertEqual(bad_pairs(guarded, "a"), [])
        twice = Program([("a", (("take", "m"), ("read", "x"), ("give", "m"), ("take", "m"), ("write", "x"),
                                ("give", "m")))])
        self.assertEqual(bad_pairs(twice, "a"),
                         [(first, second, False) for first in (0, 1, 2) for second in (3, 4, 5)])

    def test_a_second_step_that_other_threads_keep_out_of_reach(self):
        """Behind the chain, the first thread holds n and waits for m, and the other one the other way round."""
        program = Program([("a", (("read", "x"), ("take", "n"), ("read", "x"), ("take", "m"), ("give", "m"),
                                  ("give", "n"))),
                           ("b", (("take", "m"), ("write", "x"), ("take", "n"), ("give", "n"), ("give", "m")))])
        self.assertEqual(bad_pairs(program, "a"), crowd_pairs(program, "a", 2))

    def test_steps_behind_locks(self):
        """A thread gives locks before, between and behind the steps, and so do the other ones."""
        inner = (("take", "n"), ("give", "n"))
        reader = ("a", (("take", "m"), *inner, ("read", "x"), *inner, ("read", "x"), *inner, ("give", "m")))
        for writer in ((("write", "x"),), (("take", "k"), *inner, *inner, ("write", "x"), *inner, ("give", "k"))):
            program = Program([reader, ("b", writer)])
            found = bad_pairs(program, "a")
            self.assertEqual(found, crowd_pairs(program, "a", 1))
            self.assertIn((3, 6, False), found)
            self.assertIn((0, 9, False), found)

    def test_results_are_ascending_and_new(self):
        for program in small_programs(40, 95, 2, 12, locks=("m", "n", "k")):
            for kind in program.kinds:
                found = bad_pairs(program, kind)
                copy = list(found)
                self.assertEqual(found, sorted(set(found)))
                self.assertTrue(all(pair.__class__ is tuple and pair[2].__class__ is bool for pair in found))
                found.clear()
                self.assertEqual(bad_pairs(program, kind), copy)


class HoldsTest(unittest.TestCase):
    def test_every_pair_and_every_stretch(self):
        for program in [Program([LOOP, MAZE]), *small_programs(25, 96, 2, 7)]:
            for kind in program.kinds:
                repeats = repeat_of(program.row(kind))
                numbers = range(len(program.steps(kind)))
                for stretch in all_stretches(program, kind):
                    for first, second, around in itertools.product(numbers, numbers, (False, True)):
                        if around and (first not in repeats or repeats[first] != repeats.get(second)):
                            continue
                        expected = {first, second} <= set(stretch.steps())
                        if around:
                            path = repeats[first]
                            expected = expected and len(stretch.path) < len(path)
                        self.assertIs(holds(stretch, (first, second, around)), expected)

    def test_examples(self):
        self.assertIs(holds(Stretch(SPIN, "spin", (), 0, 1), (0, 0, True)), True)
        self.assertIs(holds(Stretch(SPIN, "spin", ((0, 0),), 0, 1), (0, 0, True)), False)
        self.assertIs(holds(Stretch(SPIN, "spin", ((0, 0),), 0, 1), (0, 0, False)), True)
        self.assertIs(holds(pair=(0, 1, False), stretch=Stretch(THREE, "b", (), 0, 2)), True)
        self.assertIs(holds(Stretch(THREE, "b", (), 0, 1), (0, 1, False)), False)


class UnbrokenTest(unittest.TestCase):
    def test_in_order(self):
        for program in small_programs(40, 97, 3, 9):
            for kind in program.kinds:
                expected = [stretch for stretch in all_stretches(program, kind) if is_unbroken(stretch)]
                found = list(unbroken_stretches(program, kind))
                self.assertEqual(found, expected)
                self.assertTrue(all(stretch.program is program for stretch in found))
                self.assertEqual(largest_unbroken(program, kind), [
                    inner for inner in expected
                    if [outer for outer in expected if inner.within(outer)] == [inner]])

    def test_examples(self):
        self.assertEqual(largest_unbroken(THREE, "b"),
                         [Stretch(THREE, "b", (), 0, 1), Stretch(THREE, "b", (), 1, 2)])
        self.assertEqual(largest_unbroken(THREE, "b"), list(unbroken_stretches(THREE, "b")))
        self.assertEqual(largest_unbroken(SPIN, "spin")[0].path, ((0, 0),))
        self.assertEqual(largest_unbroken(kind="look", program=SPIN), [Stretch(SPIN, "look", (), 0, 1)])
        self.assertEqual(list(unbroken_stretches(kind="look", program=SPIN)), [Stretch(SPIN, "look", (), 0, 1)])
        program = Program([("a", (OWN, ("repeat", (("add", "x"), OWN)), OWN)), ("b", (("read", "x"),))])
        self.assertEqual(largest_unbroken(program, "a"),
                         [Stretch(program, "a", (), 0, 1), Stretch(program, "a", (), 2, 3),
                          Stretch(program, "a", ((1, 0),), 0, 2)])

    def test_results_are_new(self):
        largest_unbroken(THREE, "b").clear()
        self.assertEqual(len(largest_unbroken(THREE, "b")), 2)

    def test_generator(self):
        self.assertEqual(unbroken_stretches(THREE, "b").__class__.__name__, "generator")
        late = unbroken_stretches(THREE, "none")
        self.assertIs(catch(next, late).__class__, UnknownKind)

    def test_unknown_kind(self):
        for value in [*odd_values(), 0, "bb", "x", ["b"], ("b",), b"b"]:
            for error in (catch(bad_pairs, THREE, value), catch(largest_unbroken, THREE, value),
                          catch(next, unbroken_stretches(THREE, value))):
                with self.subTest(value=value):
                    self.assertIs(error.__class__, UnknownKind)
                    self.assertIs(error.kind, value)
        self.assertEqual(bad_pairs(THREE, "b"), [(0, 1, False)])
