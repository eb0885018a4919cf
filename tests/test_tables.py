"""[23] Tables, with the last definition of [13]."""

import random
import unittest

from unbrokenruns.programs import Program
from unbrokenruns.states import moves
from unbrokenruns.stretches import Stretch, all_stretches
from unbrokenruns.tables import is_table, is_unbroken, table
from tests.models import odd_values
from tests.slow_states import all_states, closure, small_programs

BEGIN = (-1, (), ())
PAIR = Program([("put", (("read", "x"), ("write", "x")))])
WHOLE = Stretch(PAIR, "put", (), 0, 2)
LOCKED = Program([("put", (("take", "m"), ("read", "x"), ("write", "x"), ("give", "m")))])
GUARDED = Stretch(LOCKED, "put", (), 0, 4)


def stretches(seed=61):
    """All stretches of some small programs with none to two locks."""
    programs = (small_programs(15, seed, 2, 4, locks=()) + small_programs(25, seed + 1, 2, 6, locks=("m",))
                + small_programs(25, seed + 2, 2, 6, names=("x",)) + small_programs(10, seed + 3, 3, 5))
    for program in programs:
        for kind in program.kinds:
            yield from all_stretches(program, kind)


class TableTest(unittest.TestCase):
    def test_second_answer(self):
        seen = [0, 0]
        for stretch in stretches():
            states, breaks = closure(stretch, [BEGIN])
            seen[breaks] += 1
            with self.subTest(row=stretch.program.row(stretch.kind), path=stretch.path, begin=stretch.begin):
                self.assertIs(is_unbroken(stretch), not breaks)
                self.assertEqual(table(stretch), None if breaks else sorted(states))
        self.assertGreater(min(seen), 100)

    def test_examples(self):
        self.assertEqual([is_unbroken(WHOLE), is_unbroken(Stretch(PAIR, "put", (), 1, 2)), is_unbroken(GUARDED)],
                         [False, True, True])
        self.assertIsNone(table(WHOLE))
        rest = Stretch(Program([("rest", (("own",),))]), "rest", (), 0, 1)
        self.assertEqual(table(rest), [(-1, (), ()), (0, (), ())])
        self.assertIs(is_unbroken(stretch=rest), True)
        self.assertEqual(table(stretch=rest), table(rest))

    def test_stretches_of_locked_steps(self):
        self.assertEqual([is_unbroken(Stretch(LOCKED, "put", (), begin, end))
                          for begin in range(4) for end in range(begin + 1, 5)], [True] * 10)
        twice = Program([("a", (("take", "m"), ("read", "x"), ("give", "m"), ("take", "m"), ("write", "x"),
                                ("give", "m")))])
        self.assertEqual([is_unbroken(Stretch(twice, "a", (), 0, 6)), is_unbroken(Stretch(twice, "a", (), 0, 3)),
                          is_unbroken(Stretch(twice, "a", (), 2, 4)), is_unbroken(Stretch(twice, "a", (), 0, 4))],
                         [False, True, False, False])

    def test_other_kinds_break_a_stretch(self):
        row = (("read", "x"), ("read", "x"))
        self.assertIs(is_unbroken(Stretch(Program([("a", row)]), "a", (), 0, 2)), True)
        self.assertIs(is_unbroken(Stretch(Program([("a", row), ("b", (("add", "x"),))]), "a", (), 0, 2)), False)

    def test_tables_are_new(self):
        found = table(GUARDED)
        self.assertEqual(found, sorted(set(found)))
        found.clear()
        self.assertGreater(len(table(GUARDED)), 5)


class IsTableTest(unittest.TestCase):
    def test_tables_in_any_order_and_with_duplicates(self):
        rng = random.Random(8)
        for stretch in stretches(65):
            found = table(stretch)
            if found is not None:
                for value in (found, found[::-1], found + found, rng.sample(found, len(found)) + found[:1]):
                    copy = list(value)
                    self.assertIs(is_table(stretch, value), True)
                    self.assertEqual(value, copy)

    def test_one_state_left_out(self):
        for stretch in [GUARDED, Stretch(PAIR, "put", (), 1, 2), Stretch(LOCKED, "put", (), 1, 3)]:
            found = table(stretch)
            for at in range(len(found)):
                self.assertIs(is_table(stretch, found[:at] + found[at + 1:]), False)

    def test_one_state_left_out_of_random_tables(self):
        rng = random.Random(9)
        for stretch in list(stretches(69))[::7]:
            found = table(stretch)
            if found is not None:
                rest = list(found)
                rest.remove(rng.choice(found))
                self.assertIs(is_table(stretch, rest), False)

    def test_more_states(self):
        """A larger list is a table exactly if it keeps the rules, too."""
        rng = random.Random(10)
        seen = [0, 0]
        for stretch in list(stretches(73))[::2]:
            found = table(stretch)
            if found is not None:
                states = all_states(stretch)
                for more in rng.sample(states, min(4, len(states))):
                    larger, breaks = closure(stretch, [*found, more])
                    seen[breaks] += 1
                    self.assertIs(is_table(stretch, list(larger)), not breaks)
                    self.assertIs(is_table(stretch, [*found, more]), not breaks and len(larger) <= len(found) + 1)
        self.assertGreater(min(seen), 20)

    def test_a_state_that_breaks_the_pass(self):
        stretch = Stretch(PAIR, "put", (), 0, 1)
        states = list(closure(stretch, [BEGIN])[0])
        self.assertIs(is_table(stretch, states), True)
        self.assertIs(is_table(WHOLE, list(closure(WHOLE, [BEGIN])[0])), False)
        quiet = [state for state in closure(WHOLE, [BEGIN])[0] if not moves(WHOLE, state)[1]]
        self.assertIs(is_table(WHOLE, quiet), False)

    def test_without_the_begin(self):
        stretch = Stretch(PAIR, "put", (), 1, 2)
        behind = closure(stretch, [(1, (), ("own", "x", "write"))])[0]
        self.assertNotIn(BEGIN, behind)
        self.assertIs(is_table(stretch, list(behind)), False)
        self.assertIs(is_table(stretch, []), False)

    def test_tables_of_another_stretch(self):
        self.assertIs(is_table(Stretch(PAIR, "put", (), 0, 1), table(Stretch(PAIR, "put", (), 1, 2))), False)
        self.assertIs(is_table(WHOLE, table(Stretch(PAIR, "put", (), 1, 2))), False)

    def test_any_value(self):
        found = table(GUARDED)
        for value in [*odd_values(), 0, "x", tuple(found), {state: True for state in found}, set(found), iter(found)]:
            with self.subTest(value=value):
                self.assertIs(is_table(GUARDED, value), False)
        for state in [*odd_values(), 0, (0, ()), [-1, (), ()], (9, (), ()), (True, (), ()), (-1, [], ()),
                      (0, (("put", 0),), ()), (-1, (), ("own", "x", "read"))]:
            for value in ([*found, state], [state, *found], [state]):
                with self.subTest(value=value):
                    self.assertIs(is_table(GUARDED, value), False)
        self.assertIs(is_table(value=found, stretch=GUARDED), True)
