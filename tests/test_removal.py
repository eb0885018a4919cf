"""[30] Locks left out, with second answers made from the definition."""

import itertools
import unittest

from unbrokenruns.errors import UnknownName
from unbrokenruns.programs import Program
from unbrokenruns.removal import breaks, largest_removals, removals, without_locks
from unbrokenruns.search import most_others
from unbrokenruns.stretches import Stretch, all_stretches, rows
from unbrokenruns.tables import is_unbroken
from tests.models import LOOP, MAZE, NESTED, catch, odd_values
from tests.slow import flat
from tests.slow_states import crowd_breaks, small_programs

OWN = ("own",)
LOCKED = Program([("put", (("take", "m"), ("read", "x"), ("write", "x"), ("give", "m")))])
SHUT = Stretch(LOCKED, "put", (), 0, 4)
TWO = Program([
    ("p", (("take", "l"), ("write", "x"), ("read", "y"), ("take", "m"), ("give", "m"), ("give", "l"))),
    ("q", (("take", "m"), ("write", "y"), ("read", "x"), ("take", "l"), ("give", "l"), ("give", "m")))])
# Each of the two locks alone is enough for the stretch.
DOUBLE = Program([("a", (("take", "l"), ("take", "m"), ("read", "x"), ("write", "x"), ("give", "m"), ("give", "l")))])


def thinned_row(row, locks):
    found = []
    for item in row:
        if item[0] in ("choose", "repeat"):
            found.append((item[0], *[thinned_row(inner, locks) for inner in item[1:]]))
        else:
            found.append(OWN if item[0] in ("take", "give") and item[1] in locks else item)
    return tuple(found)


def slow_without(program, locks):
    return Program([(kind, thinned_row(program.row(kind), locks)) for kind in program.kinds])


def lock_sets(program):
    return [chosen for many in range(len(program.locks) + 1)
            for chosen in itertools.combinations(sorted(program.locks), many)]


def some_programs():
    return [Program([LOOP, MAZE]), Program([NESTED]), LOCKED, TWO, DOUBLE, *small_programs(15, 501, 2, 6, locks=()),
            *small_programs(15, 502, 2, 7, names=("x",), locks=("m",)), *small_programs(25, 503, 2, 8),
            *small_programs(15, 504, 2, 9, names=("x",), locks=("m", "l", "k"))]


def some_stretches(program):
    return [stretch for kind in program.kinds for stretch in all_stretches(program, kind)][::3]


class WithoutLocksTest(unittest.TestCase):
    def test_every_set_of_locks(self):
        for program in some_programs():
            before = [(kind, program.row(kind)) for kind in program.kinds]
            for locks in lock_sets(program):
                found = without_locks(program, list(locks))
                self.assertEqual(found, slow_without(program, locks))
                self.assertEqual(found.kinds, program.kinds)
                self.assertEqual(found.locks, [name for name in program.locks if name not in locks])
                for kind in program.kinds:
                    self.assertEqual(rows(found, kind), rows(program, kind))
                    self.assertEqual(len(found.steps(kind)), len(flat(program.row(kind))))
            self.assertEqual(before, [(kind, program.row(kind)) for kind in program.kinds])

    def test_duplicates_and_any_order(self):
        program = Program([NESTED])
        expected = slow_without(program, ["b", "m"])
        for locks in (["b", "m"], ["m", "b"], ["m", "b", "m", "m"]):
            copy = list(locks)
            self.assertEqual(without_locks(program, locks), expected)
            self.assertEqual(locks, copy)
        self.assertEqual(without_locks(program, []), program)
        self.assertEqual(without_locks(locks=["m"], program=LOCKED).steps("put"),
                         [OWN, ("read", "x"), ("write", "x"), OWN])

    def test_unknown_name(self):
        for value in [*odd_values(), 0, "x", "put", "z", ["m"], ("m",), b"m"]:
            for locks in ([value], ["m", value, "y"], [value, "x"]):
                for error in (catch(without_locks, LOCKED, locks), catch(breaks, LOCKED, locks, [SHUT])):
                    self.assertIs(error.__class__, UnknownName)
                    self.assertIs(error.name, value)


class BreaksTest(unittest.TestCase):
    def test_every_set_of_locks(self):
        seen = 0
        for program in some_programs():
            stretches = some_stretches(program)
            for locks in lock_sets(program):
                thinned = slow_without(program, locks)
                expected = [stretch for stretch in stretches if not is_unbroken(stretch.of(thinned))]
                found = breaks(program, list(locks), stretches)
                seen += len(found)
                self.assertEqual(found, expected)
                self.assertTrue(all(any(one is stretch for stretch in stretches) for one in found))
                self.assertEqual(breaks(program, list(locks), stretches[::-1]), expected[::-1])
        self.assertGreater(seen, 100)

    def test_examples(self):
        self.assertEqual(breaks(LOCKED, ["m"], [SHUT]), [SHUT])
        self.assertEqual(breaks(stretches=[SHUT], locks=[], program=LOCKED), [])
        single = Stretch(LOCKED, "put", (), 1, 2)
        self.assertEqual(breaks(LOCKED, ["m", "m"], [single, SHUT, single, SHUT]), [SHUT, SHUT])
        given = [SHUT]
        breaks(LOCKED, ["m"], given).clear()
        self.assertEqual([given, breaks(LOCKED, ["m"], given)], [[SHUT], [SHUT]])


class RemovalsTest(unittest.TestCase):
    def test_all_sets_in_order(self):
        for program in some_programs():
            stretches = some_stretches(program)
            found = list(removals(program, stretches))
            self.assertEqual(found, [(locks, breaks(program, list(locks), stretches)) for locks in lock_sets(program)])
        three = Program([("a", (("take", "l"), ("take", "k"), ("take", "m"), ("give", "m"), ("give", "k"),
                                ("give", "l")))])
        self.assertEqual([locks for locks, _ in removals(three, [])],
                         [(), ("k",), ("l",), ("m",), ("k", "l"), ("k", "m"), ("l", "m"), ("k", "l", "m")])

    def test_generator(self):
        whole = Stretch(DOUBLE, "a", (), 0, 6)
        given = [whole]
        found = removals(stretches=given, program=DOUBLE)
        self.assertEqual(found.__class__.__name__, "generator")
        self.assertEqual(next(found), ((), []))
        given.clear()
        self.assertEqual(list(found), [(("l",), []), (("m",), []), (("l", "m"), [whole])])
        given.append(whole)
        late = removals(DOUBLE, given)
        given.clear()
        self.assertEqual(list(late)[-1], (("l", "m"), []))
        for _, broken in removals(DOUBLE, [whole]):
            broken.append(None)
        self.assertEqual(list(removals(DOUBLE, [whole]))[0], ((), []))

    def test_largest(self):
        seen = set()
        for program in some_programs():
            for stretches in (some_stretches(program), [one for one in some_stretches(program) if is_unbroken(one)],
                              []):
                good = [locks for locks in lock_sets(program) if not breaks(program, list(locks), stretches)]
                expected = [locks for locks in good if not any(set(locks) < set(other) for other in good)]
                self.assertEqual(largest_removals(program, stretches), expected)
                seen.add(len(expected))
        self.assertLessEqual({0, 1, 2}, seen)

    def test_examples(self):
        self.assertEqual(largest_removals(TWO, [Stretch(TWO, "p", (), 1, 3)]), [("m",)])
        self.assertEqual(largest_removals(stretches=[Stretch(DOUBLE, "a", (), 0, 6)], program=DOUBLE), [("l",), ("m",)])
        self.assertEqual(largest_removals(LOCKED, []), [("m",)])
        unlocked = Program([("put", (("read", "x"), ("write", "x")))])
        self.assertEqual(largest_removals(unlocked, [Stretch(unlocked, "put", (), 0, 2)]), [])
        self.assertEqual(largest_removals(unlocked, [Stretch(unlocked, "put", (), 0, 1)]), [()])

    def test_a_part_that_cannot_be_left_out(self):
        """A set can be left out although a part of it or a greater set cannot."""
        program = Program([("a", (("take", "l"), ("take", "m"), ("give", "m"), ("give", "l"), ("take", "m"), OWN,
                                  ("give", "m")))])
        stretches = [Stretch(program, "a", (), 0, 4), Stretch(program, "a", (), 0, 7)]
        for stretch in stretches:
            good = [locks for locks in lock_sets(program)
                    if not crowd_breaks(stretch.of(slow_without(program, locks)), 2)]
            found = [locks for locks, broken in removals(program, [stretch]) if not broken]
            self.assertEqual(found, good)


class GuaranteeTest(unittest.TestCase):
    def test_exact_over_small_programs(self):
        for program in [*small_programs(15, 505, 2, 4, names=("x",), locks=("m",)), LOCKED]:
            stretches = some_stretches(program)
            for locks, broken in removals(program, stretches):
                thinned = slow_without(program, locks)
                self.assertEqual(broken, [stretch for stretch in stretches
                                          if crowd_breaks(stretch.of(thinned), most_others(thinned))])
