"""[28] Units, serial orders and rings of units, with second answers made from the definitions."""

import itertools
import random
import unittest

from unbrokenruns.errors import InvalidThreads, OverlappingStretches, TooMany
from unbrokenruns.plays import played
from unbrokenruns.programs import Program
from unbrokenruns.runs import Run, all_runs
from unbrokenruns.stretches import Stretch, all_stretches
from unbrokenruns.tables import is_unbroken
from unbrokenruns.together import (first_ring, is_pass_ring, is_serial_order, pass_ring, serial_order, serial_run,
                                   together, units)
from tests.models import LOOP, MAZE, OPEN, catch, odd_values
from tests.slow import Replay, all_passes, tie_table
from tests.slow_states import small_programs

OWN = ("own",)
PAIR = Program([("put", (("read", "x"), ("write", "x")))])
WHOLE = Stretch(PAIR, "put", (), 0, 2)
RUN = Run(PAIR, ["put", "put"], [(0, 0), (1, 0), (1, 1), (0, 1)])
TWO = Program([
    ("p", (("take", "l"), ("write", "x"), ("read", "y"), ("take", "m"), ("give", "m"), ("give", "l"))),
    ("q", (("take", "m"), ("write", "y"), ("read", "x"), ("take", "l"), ("give", "l"), ("give", "m")))])
RING = Program([("a", (("write", "x"), ("write", "y"))), ("b", (("write", "y"), ("write", "z"))),
                ("c", (("write", "z"), ("write", "x")))])
WISHED = [Stretch(TWO, "p", (), 1, 3), Stretch(TWO, "q", (), 1, 3)]


def slow_units(run, stretches):
    passed = [positions for stretch in stretches for _, positions in all_passes(run, stretch)]
    inside = [at for positions in passed for at in positions]
    return sorted(passed + [[at] for at in range(len(run)) if at not in inside])


def slow_links(run, stretches):
    """All links, as tuples (i, j) of positions of different units."""
    groups = slow_units(run, stretches)
    unit_of = {at: index for index, unit in enumerate(groups) for at in unit}
    table = tie_table(run)
    return [(i, j) for i in range(len(run)) for j in table[i] if unit_of[i] != unit_of[j]], unit_of


def slow_ring_size(run, stretches):
    """The number of the links of a shortest ring of units, or None: closed walks of each length are tried."""
    links, unit_of = slow_links(run, stretches)
    edges = {}
    for i, j in links:
        edges.setdefault(unit_of[i], set()).add(unit_of[j])
    ends = {unit: {unit} for unit in edges}
    for size in range(1, len(run) + 1):
        ends = {unit: set().union(*[edges.get(one, set()) for one in found]) for unit, found in ends.items()}
        if any(unit in found for unit, found in ends.items()):
            return size
    return None


def slow_order(run, stretches):
    """The order in which the units come, literally as it is told."""
    groups = slow_units(run, stretches)
    links, unit_of = slow_links(run, stretches)
    waiting = list(range(len(groups)))
    found = []
    while waiting:
        free = [unit for unit in waiting
                if not any(unit_of[j] == unit and unit_of[i] in waiting for i, j in links)]
        if not free:
            return None
        unit = min(free, key=lambda one: groups[one][0])
        waiting.remove(unit)
        found.extend(groups[unit])
    return found


def slow_is_order(run, stretches, value):
    if value.__class__ is not list or [at for at in value if at.__class__ is not int]:
        return False
    if sorted(value) != list(range(len(run))):
        return False
    for unit in slow_units(run, stretches):
        first = value.index(unit[0])
        if value[first:first + len(unit)] != unit:
            return False
    return all(value.index(i) < value.index(j) for i, found in tie_table(run).items() for j in found)


def slow_is_ring(run, stretches, value):
    links, unit_of = slow_links(run, stretches)
    if value.__class__ is not list or len(value) < 2:
        return False
    for link in value:
        if link.__class__ is not tuple or len(link) != 2 or [at for at in link if at.__class__ is not int]:
            return False
        if link not in links:
            return False
    return all(unit_of[value[k - 1][1]] == unit_of[value[k][0]] for k in range(len(value)))


def apart(rng, stretches):
    """Some of the stretches of which no two have a common step, rather long ones, in any order."""
    stretches.sort(key=lambda one: -len(one) * rng.random())
    found = []
    for stretch in stretches[:rng.choice([0, 2, 12, 12])]:
        if not any(stretch.kind == one.kind and set(stretch.steps()) & set(one.steps()) for one in found):
            found.append(stretch)
    return found


def cases(many, seed, most, threads=4):
    """Tuples of a random run and of stretches without a common step; some passes are unfinished."""
    rng = random.Random(seed)
    programs = [Program([LOOP, MAZE]), Program([OPEN, LOOP]), PAIR, TWO, RING, *small_programs(many, seed, 2, 6),
                *small_programs(many, seed + 1, 3, 5, names=("x", "y", "z"), locks=("m",)),
                *small_programs(many, seed + 2, 2, 4, names=("x",), locks=())]
    for program in programs:
        stretches = [stretch for kind in program.kinds for stretch in all_stretches(program, kind)]
        for _ in range(4):
            run = Run(program, [rng.choice(program.kinds) for _ in range(rng.randint(1, threads))])
            length = rng.randint(0, most)
            while len(run) < length and run.next_events():
                run = run.then(rng.choice(run.next_events()))
            yield run, apart(rng, stretches)


def told(values):
    total = 1
    for value in values:
        total = total * 7 + value
    return total


class OrderTest(unittest.TestCase):
    def test_units_orders_and_rings(self):
        seen = {True: 0, False: 0}
        sizes = set()
        for run, stretches in cases(60, 301, 12):
            given = list(stretches)
            self.assertEqual(units(run, stretches), slow_units(run, stretches))
            order, found = serial_order(run, stretches), pass_ring(run, stretches)
            self.assertEqual(order, slow_order(run, stretches))
            self.assertIs(order is None, found is not None)
            self.assertIs(serial_run(run, stretches) is None, order is None)
            size = slow_ring_size(run, stretches)
            self.assertEqual(None if found is None else len(found), size)
            sizes.add(size)
            seen[order is None] += 1
            if found is None:
                self.assertTrue(is_serial_order(run, stretches, order))
                self.assertTrue(slow_is_order(run, stretches, order))
            else:
                self.assertTrue(is_pass_ring(run, stretches, found))
                self.assertTrue(slow_is_ring(run, stretches, found))
            self.assertEqual(stretches, given)
        self.assertGreater(min(seen.values()), 40)
        self.assertLessEqual({None, 2}, sizes)

    def test_long_rings(self):
        stretches = [Stretch(RING, kind, (), 0, 2) for kind in "abc"]
        run = Run(RING, ["a", "b", "c"], [(0, 0), (1, 0), (2, 0), (0, 1), (1, 1), (2, 1)])
        self.assertEqual(len(pass_ring(run, stretches)), 3)
        self.assertEqual(pass_ring(run, stretches[:2]), None)
        self.assertIsNone(serial_order(run, stretches))
        sizes = set()
        for run in all_runs(RING, ["a", "b", "c"]):
            found = pass_ring(run, stretches)
            self.assertEqual(None if found is None else len(found), slow_ring_size(run, stretches))
            self.assertTrue(found is None or slow_is_ring(run, stretches, found))
            sizes.add(slow_ring_size(run, stretches))
        self.assertEqual(sizes, {None, 3})

    def test_examples(self):
        self.assertEqual([pass_ring(RUN, [WHOLE]), serial_order(RUN, []),
                          serial_order(Run(PAIR, ["put"], [(0, 0)]), [WHOLE])], [[(0, 2), (1, 3)], [0, 1, 2, 3], [0]])
        self.assertEqual([units(RUN, [WHOLE]), units(RUN, [])], [[[0, 3], [1, 2]], [[0], [1], [2], [3]]])
        run = Run(PAIR, ["put", "put"], [(0, 0), (1, 0), (0, 1)])
        self.assertEqual(serial_order(run, [WHOLE]), [1, 0, 2])
        self.assertEqual(serial_run(run, [WHOLE]).events, [(1, 0), (0, 0), (0, 1)])
        empty = Run(PAIR, ["put"])
        self.assertEqual([units(empty, [WHOLE]), serial_order(empty, [WHOLE]), pass_ring(empty, [WHOLE])],
                         [[], [], None])

    def test_the_order_among_several(self):
        program = Program([("a", (("own",), ("read", "x"), ("own",))), ("b", (("write", "x"), ("own",)))])
        run = Run(program, ["a", "b"], [(0, 0), (1, 0), (0, 1), (1, 1), (0, 2)])
        self.assertEqual(serial_order(run, [Stretch(program, "a", (), 1, 3)]), [0, 1, 2, 4, 3])
        self.assertEqual(serial_order(run, [Stretch(program, "a", (), 0, 3)]), [1, 0, 2, 4, 3])
        self.assertEqual(serial_order(run, [Stretch(program, "b", (), 0, 2)]), [0, 1, 3, 2, 4])
        # A thread that never comes to the stretch has no pass.
        self.assertEqual(serial_order(Run(program, ["a"], [(0, 0)]), [Stretch(program, "b", (), 0, 2)]), [0])

    def test_a_serial_run_plays_alike(self):
        seen = 0
        for run, stretches in cases(40, 302, 14):
            other = serial_run(run, stretches)
            if other is not None:
                seen += other != run
                order = serial_order(run, stretches)
                self.assertEqual(other.events, [run.events[at] for at in order])
                self.assertIsNone(Replay(run.program, run.threads, other.events).fault)
                self.assertEqual(other.threads, run.threads)
                for rule in (len, sum, told):
                    for start in (None, {name: 3 for name in run.program.variables}):
                        self.assertEqual(played(run, rule, start=start), played(other, rule, start=start))
        self.assertGreater(seen, 20)

    def test_a_long_run(self):
        program = Program([("a", (("repeat", (("add", "x"), ("read", "y"), ("write", "z"))),))])
        events = [(thread, number) for _ in range(11) for number in range(3) for thread in range(12)]
        run = Run(program, ["a"] * 12, events)
        self.assertEqual(len(pass_ring(run, [Stretch(program, "a", (), 0, 1)])), 2)
        # Passes one behind the other, with 132 units that are made of several positions.
        apart_events = [(thread, number) for thread in range(12) for _ in range(11) for number in range(3)]
        whole = Stretch(program, "a", ((0, 0),), 0, 3)
        self.assertEqual(serial_order(Run(program, ["a"] * 12, apart_events), [whole]), list(range(396)))
        self.assertIsNone(pass_ring(Run(program, ["a"] * 12, apart_events), [whole]))

    def test_results_are_new(self):
        for call in (lambda: units(RUN, [WHOLE]), lambda: serial_order(RUN, []), lambda: pass_ring(RUN, [WHOLE])):
            first, second = call(), call()
            self.assertEqual(first, second)
            self.assertIsNot(first, second)
            first.clear()
            self.assertEqual(call(), second)
        units(RUN, [WHOLE])[0].clear()
        self.assertEqual(units(RUN, [WHOLE])[0], [0, 3])
        self.assertEqual(RUN.events, [(0, 0), (1, 0), (1, 1), (0, 1)])


class CheckTest(unittest.TestCase):
    def values_like(self, rng, value, links):
        """Values that are nearly the told one."""
        found = [list(value), tuple(value), value[::-1], value[1:], value[:-1], [*value, *value], value[1:] + value[:1]]
        for at in range(len(value)):
            found.append(value[:at] + value[at + 1:])
            for other in rng.sample(links, min(3, len(links))) + [value[at - 1], True, None, (0, True)]:
                found.append(value[:at] + [other] + value[at + 1:])
            for other in range(at):
                swapped = list(value)
                swapped[at], swapped[other] = swapped[other], swapped[at]
                found.append(swapped)
        return found

    def test_serial_orders(self):
        rng = random.Random(1)
        seen = {True: 0, False: 0}
        for run, stretches in cases(30, 303, 7):
            given = [list(range(len(run))), serial_order(run, stretches) or []]
            for value in given + self.values_like(rng, given[1], list(range(-1, len(run) + 1))):
                found = is_serial_order(run, stretches, value)
                self.assertIs(found, slow_is_order(run, stretches, value))
                seen[found] += 1
        self.assertGreater(min(seen.values()), 200)

    def test_all_orders_of_small_runs(self):
        for run, stretches in cases(8, 304, 5):
            for value in itertools.permutations(range(len(run))):
                self.assertIs(is_serial_order(run, stretches, list(value)),
                              slow_is_order(run, stretches, list(value)))

    def test_rings(self):
        rng = random.Random(2)
        seen = {True: 0, False: 0}
        for run, stretches in cases(80, 305, 12):
            links, _ = slow_links(run, stretches)
            given = pass_ring(run, stretches) or rng.sample(links, min(2, len(links)))
            pairs = [(i, j) for i in range(-1, len(run) + 1) for j in range(len(run))]
            for value in self.values_like(rng, given, pairs) + self.values_like(rng, given, links):
                found = is_pass_ring(run, stretches, value)
                self.assertIs(found, slow_is_ring(run, stretches, value))
                seen[found] += 1
        self.assertGreater(min(seen.values()), 200)

    def test_rings_of_two_and_three_links(self):
        for run, stretches in cases(5, 306, 6, threads=3):
            links, _ = slow_links(run, stretches)
            for many in (1, 2, 3):
                for value in itertools.product(links[:12], repeat=many):
                    self.assertIs(is_pass_ring(run, stretches, list(value)),
                                  slow_is_ring(run, stretches, list(value)))

    def test_any_value(self):
        for value in [*odd_values(), 0, "x", [[0], [1]], [(0, 2), (1, True)], [(0, 2), (1, 3, 4)], [(0, 2), [1, 3]],
                      [0, 1, 2, True], [0, 1, 2, None], [False, 1, 2, 3], ((0, 2), (1, 3)), (0, 1, 2, 3)]:
            self.assertIs(is_serial_order(RUN, [WHOLE], value), False)
            self.assertIs(is_serial_order(RUN, [], value), False)
            self.assertIs(is_pass_ring(RUN, [WHOLE], value), False)
        self.assertIs(is_serial_order(RUN, [], [0, 1, 2, 3]), True)
        self.assertIs(is_pass_ring(value=[(1, 3), (0, 2)], stretches=[WHOLE], run=RUN), True)
        self.assertIs(is_pass_ring(RUN, [WHOLE], [(0, 2), (1, 3)] * 2), True)
        self.assertIs(is_serial_order(Run(PAIR, ["put"]), [WHOLE], []), True)
        self.assertIs(is_pass_ring(Run(PAIR, ["put"]), [WHOLE], []), False)


class OverlapTest(unittest.TestCase):
    def calls(self, run, stretches):
        program = run.program
        return [lambda: units(run, stretches), lambda: serial_order(run, stretches),
                lambda: serial_run(run, stretches), lambda: pass_ring(run, stretches),
                lambda: is_serial_order(run, stretches, None), lambda: is_pass_ring(run, stretches, None),
                lambda: first_ring(program, ["none"], stretches, most=3),
                lambda: first_ring(program, run.threads * 4, stretches, most=9),
                lambda: together(program, stretches)]

    def check(self, run, stretches, one, other):
        for call in self.calls(run, stretches):
            error = catch(call)
            self.assertIs(error.__class__, OverlappingStretches)
            self.assertEqual((error.one, error.other), (one, other))

    def test_smallest_pair(self):
        def part(kind, begin, end):
            return Stretch(TWO, kind, (), begin, end)
        run = Run(TWO, ["p", "q"], [(0, 0)])
        self.check(run, [part("p", 0, 2), part("p", 0, 2)], 0, 1)
        self.check(run, [part("p", 0, 2), part("q", 0, 3), part("p", 2, 4), part("q", 2, 3), part("p", 1, 2)], 0, 4)
        self.check(run, [part("p", 0, 2), part("q", 0, 3), part("p", 2, 4), part("q", 2, 3), part("p", 2, 3)], 1, 3)
        self.check(run, [part("q", 3, 4), part("p", 2, 4), part("p", 0, 3), part("p", 1, 6)], 1, 2)

    def test_of_a_row_and_of_a_row_around(self):
        program = Program([LOOP, ("b", LOOP[1])])
        run = Run(program, ["loop"])
        around, inner = Stretch(program, "loop", (), 0, 1), Stretch(program, "loop", ((0, 0),), 2, 3)
        self.check(run, [Stretch(program, "b", (), 0, 1), inner, around], 1, 2)
        self.check(run, [inner, Stretch(program, "loop", ((0, 0),), 0, 2), around], 0, 2)
        self.assertEqual(units(run, [inner, Stretch(program, "b", (), 0, 2), Stretch(program, "loop", (), 1, 2)]), [])

    def test_two_locks_and_overlapping(self):
        self.assertIs(catch(together, TWO, WISHED + WISHED[:1]).__class__, OverlappingStretches)


class FirstRingTest(unittest.TestCase):
    def shortest(self, program, threads, stretches, most):
        """The number of the events of a shortest run with a ring of units, or None."""
        sizes = [len(run) for run in all_runs(program, threads, most=most)
                 if slow_ring_size(run, stretches) is not None]
        return min(sizes, default=None)

    def check(self, program, threads, stretches, deepest=8):
        shortest = self.shortest(program, threads, stretches, deepest)
        for most in range(deepest + 1):
            found = first_ring(program, threads, stretches, most=most)
            self.assertIs(found is None, shortest is None or most < shortest)
            if found is not None:
                self.assertEqual((found.threads, len(found)), (threads, shortest))
                self.assertTrue(found.program == program)
                self.assertIsNotNone(slow_ring_size(found, stretches))
        return shortest

    def test_against_all_runs(self):
        rng = random.Random(5)
        sizes = {}
        programs = (small_programs(60, 311, 2, 3, names=("x",), locks=()) + small_programs(40, 312, 2, 3, locks=())
                    + small_programs(60, 313, 2, 5, names=("x",), locks=("m",)))
        for program in programs:
            stretches = apart(rng, [one for kind in program.kinds for one in all_stretches(program, kind)] * 2)
            for many in (1, 2, 3):
                threads = [rng.choice(program.kinds) for _ in range(many)]
                deepest = {1: 8, 2: 7, 3: 5}[many]
                size = self.check(program, threads, stretches, deepest)
                sizes[size] = sizes.get(size, 0) + 1
        self.assertLessEqual({None, 3, 4, 5}, set(sizes))

    def test_three_threads_and_eight_events(self):
        chain = [("a", (("write", "x"), ("write", "y"), OWN)), ("b", (("write", "y"), ("write", "z"))),
                 ("c", (("write", "z"), ("read", "x")))]
        program = Program(chain)
        stretches = [Stretch(program, kind, (), 0, 2) for kind in "abc"]
        self.assertEqual(self.check(program, ["a", "b", "c"], stretches), 6)
        self.assertEqual(self.check(program, ["a", "b", "b"], stretches), 4)
        self.assertIsNone(self.check(program, ["a", "b", "c"], stretches[:2]))
        late = Program([("a", (("read", "x"), OWN, OWN, OWN, ("read", "x"))), ("b", (OWN, OWN, ("write", "x")))])
        self.assertEqual(self.check(late, ["a", "b"], [Stretch(late, "a", (), 0, 5)]), 8)

    def test_a_ring_through_a_pass_that_is_over(self):
        program = Program([("a", (("write", "y"), OWN, ("write", "x"))), ("b", (("read", "y"), ("read", "x")))])
        stretches = [Stretch(program, "a", (), 0, 2), Stretch(program, "a", (), 2, 3), Stretch(program, "b", (), 0, 2)]
        self.assertEqual(self.check(program, ["a", "b"], stretches), 5)
        self.assertEqual(self.check(program, ["a", "b", "a"], stretches, 6), 5)

    def test_two_locks(self):
        self.assertEqual(self.check(TWO, ["p", "q"], WISHED), 6)
        self.assertIsNone(self.check(TWO, ["p", "p"], WISHED))
        self.assertEqual(len(first_ring(TWO, ["p", "q"], WISHED, most=6)), 6)
        self.assertIsNone(first_ring(TWO, ["p", "q"], WISHED, most=5))

    def test_around_a_repeat(self):
        for path, size in (((), 3), (((0, 0),), None)):
            program = Program([("a", (("repeat", (("read", "x"),)),)), ("b", (("write", "x"),))])
            end = 1
            self.assertEqual(self.check(program, ["a", "b"], [Stretch(program, "a", path, 0, end)], 6), size)

    def test_a_pass_that_is_left_or_goes_on(self):
        """Behind the read, a thread goes on with the pass or leaves it for a step that conflicts."""
        program = Program([("a", (("read", "x"), ("repeat", (OWN,)), ("read", "x"))), ("b", (("write", "x"),))])
        self.assertIsNone(self.check(program, ["a", "b"], [Stretch(program, "a", (), 0, 2)], 6))
        self.assertEqual(self.check(program, ["a", "b"], [Stretch(program, "a", (), 0, 3)], 6), 3)
        both = [Stretch(program, "a", (), 0, 2), Stretch(program, "a", (), 2, 3)]
        self.assertIsNone(self.check(program, ["a", "b", "b"], both, 5))

    def test_many_ways(self):
        steps = [("repeat", ((word, name),)) for word in ("read", "write", "add") for name in "xyzw"]
        program = Program([("a", tuple(steps))])
        found = first_ring(program, ["a", "a", "a"], [Stretch(program, "a", (), 0, 12)], most=8)
        self.assertEqual(len(found), 3)
        calm = Program([("a", tuple(("repeat", (("read", name),)) for name in "xyzwxyzwxyzw"))])
        self.assertIsNone(first_ring(calm, ["a", "a", "a"], [Stretch(calm, "a", (), 0, 12)], most=8))

    def test_errors(self):
        program = Program([LOOP, MAZE])
        for threads in (["loop"] * 4, ["none"] * 5, ["loop"] * 13):
            error = catch(first_ring, program, threads, [], most=9)
            self.assertIs(error.__class__, TooMany)
            self.assertEqual((error.what, error.count), ("threads", len(threads)))
        for most in (9, 10, 400):
            error = catch(first_ring, program, ["none"], [], most=most)
            self.assertIs(error.__class__, TooMany)
            self.assertEqual((error.what, error.count), ("events", most))
        for value in [*odd_values(), "x", "put"]:
            error = catch(first_ring, program, ["loop", value, 5], [], most=8)
            self.assertIs(error.__class__, InvalidThreads)
            self.assertEqual(error.index, 1)
        self.assertIs(catch(first_ring, program, [], [], most=2).__class__, InvalidThreads)
        self.assertIs(catch(first_ring, program, ["loop"], [], 2).__class__, TypeError)
        self.assertIsNone(first_ring(most=0, stretches=[], threads=["loop"], program=program))


class AllTogetherTest(unittest.TestCase):
    def test_no_and_one_lock(self):
        rng = random.Random(6)
        seen = {True: 0, False: 0}
        for program in (small_programs(60, 321, 2, 4, locks=())
                        + small_programs(60, 322, 2, 6, names=("x",), locks=("m",))):
            stretches = apart(rng, [one for kind in program.kinds for one in all_stretches(program, kind)])
            found = together(program, stretches)
            self.assertIs(found, all(is_unbroken(stretch) for stretch in stretches))
            seen[found] += 1
        self.assertGreater(min(seen.values()), 20)
        self.assertIs(together(program=PAIR, stretches=[WHOLE]), False)
        self.assertIs(together(PAIR, []), True)

    def test_too_many_locks(self):
        three = Program([("a", (("take", "k"), ("give", "k"))), *[(kind, TWO.row(kind)) for kind in TWO.kinds]])
        for program, many in ((TWO, 2), (three, 3)):
            for stretches in ([], [Stretch(program, "p", (), 1, 3)]):
                error = catch(together, program, stretches)
                self.assertIs(error.__class__, TooMany)
                self.assertEqual((error.what, error.count), ("locks", many))
