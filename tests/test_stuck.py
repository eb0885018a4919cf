"""[29] Stuck threads, sticking runs and calm tables, with second answers made from the definitions."""

import itertools
import random
import unittest

from unbrokenruns.programs import Program
from unbrokenruns.runs import Run, all_runs
from unbrokenruns.stuck import calm_table, is_calm_table, stuck_threads, sticking_run
from tests.models import LOOP, MAZE, NESTED, OPEN, odd_values
from tests.slow import Replay, coming, flat
from tests.slow_states import all_pairs, locks_at, small_programs, step_at

OWN = ("own",)
TWO = Program([
    ("p", (("take", "l"), ("write", "x"), ("read", "y"), ("take", "m"), ("give", "m"), ("give", "l"))),
    ("q", (("take", "m"), ("write", "y"), ("read", "x"), ("take", "l"), ("give", "l"), ("give", "m")))])
LOCKED = Program([("put", (("take", "m"), ("read", "x"), ("write", "x"), ("give", "m")))])


def both(one, other):
    return (("take", one), ("take", other), ("give", other), ("give", one))


RING = Program([("a", both("k", "l")), ("b", both("l", "m")), ("c", both("m", "k"))])
DOOR = Program([("a", (("take", "k"), ("choose", both("l", "m")[:1] + (("give", "l"),), (OWN,)), ("give", "k"))),
                ("b", both("l", "k"))])
LATER = Program([("a", (OWN, ("take", "l"), ("give", "l"), ("take", "k"), ("take", "l"), ("give", "l"), ("give", "k"))),
                 ("b", (("take", "k"), ("give", "k"), *both("l", "k")))])


def wanted(program, pair):
    """The set of the locks that the steps that may come next take; None if there is none or another step."""
    row = program.row(pair[0])
    steps = [flat(row)[number] for number in coming(row)[pair[1]]]
    return {step[1] for step in steps} if steps and all(step[0] == "take" for step in steps) else None


def is_stuck_set(program, pairs):
    """Whether threads at these places are a stuck set."""
    held = {lock for pair in pairs for lock in locks_at(program, pair)}
    return all(wanted(program, pair) is not None and wanted(program, pair) <= held for pair in pairs)


def slow_stuck(program, pairs):
    """The union of all stuck sets of the threads at these places."""
    found = set()
    for many in range(1, len(pairs) + 1):
        for chosen in itertools.combinations(range(len(pairs)), many):
            if is_stuck_set(program, [pairs[thread] for thread in chosen]):
                found.update(chosen)
    return sorted(found)


def ends(program, many):
    """The set of the ascending tuples of the places to which so many threads can come together."""
    first = [tuple(sorted((kind, -1) for kind in kinds))
             for kinds in itertools.combinations_with_replacement(program.kinds, many)]
    seen = set(first)
    waiting = list(first)
    while waiting:
        pairs = waiting.pop()
        held = {lock for pair in pairs for lock in locks_at(program, pair)}
        for index, (kind, place) in enumerate(pairs):
            for step in coming(program.row(kind))[place]:
                word, name = (*flat(program.row(kind))[step], None)[:2]
                after = tuple(sorted((*pairs[:index], (kind, step), *pairs[index + 1:])))
                if (word != "take" or name not in held) and after not in seen:
                    seen.add(after)
                    waiting.append(after)
    return seen


def slow_fewest(program):
    """The fewest stuck threads of any run, found among the runs of at most as many threads as there are locks."""
    for many in range(1, len(program.locks) + 1):
        sizes = [len(slow_stuck(program, pairs)) for pairs in ends(program, many)]
        sizes = [size for size in sizes if size]
        if sizes:
            return min(sizes)
    return None


def is_calm_state(program, value):
    if value.__class__ is not tuple or not all(pair in all_pairs(program) for pair in value):
        return False
    held = [lock for pair in value for lock in locks_at(program, pair)]
    return (value == tuple(sorted(value)) and len(held) == len(set(held))
            and all(locks_at(program, pair) for pair in value))


def calm_moves(program, state):
    """The list of the calm states behind the moves, literally as they are told."""
    held = {lock for pair in state for lock in locks_at(program, pair)}
    found = []
    for pair in all_pairs(program):
        free = not locks_at(program, pair)
        if not free and pair not in state:
            continue
        rest = [other for other in state if other != pair]
        for step in coming(program.row(pair[0]))[pair[1]]:
            after = (pair[0], step)
            word, name = (*step_at(program, after), None)[:2]
            if (word == "take" and name in held) or (free and word != "take"):
                continue
            found.append(tuple(sorted([*rest, after] if locks_at(program, after) else rest)))
    return found


def slow_calm_table(program):
    seen = {()}
    waiting = [()]
    while waiting:
        for after in calm_moves(program, waiting.pop()):
            if after not in seen:
                seen.add(after)
                waiting.append(after)
    return None if any(slow_stuck(program, state) for state in seen) else sorted(seen)


def slow_is_calm_table(program, value):
    if value.__class__ is not list or not all(is_calm_state(program, state) for state in value):
        return False
    return (len(set(value)) == len(value) and () in value and not any(slow_stuck(program, state) for state in value)
            and all(after in value for state in value for after in calm_moves(program, state)))


def lock_part(rng):
    """Some neighbouring items of a row, with locks taken one within the other."""
    names = rng.sample(["k", "l", "m"], 3)
    inner = rng.choice([(("take", names[1]), ("give", names[1])), both(*names[1:]), (OWN,)])
    if rng.randrange(3) == 0:
        inner = (("choose", inner, (rng.choice([OWN, ("read", "x")]),)),)
    part = (("take", names[0]), *inner, ("give", names[0]))
    return rng.choice([part, part, (("repeat", part),), (("choose", part, (("take", names[2]), ("give", names[2]))),)])


def lock_programs(many, seed):
    rng = random.Random(seed)
    found = []
    while len(found) < many:
        kinds = [(kind, sum([lock_part(rng) for _ in range(rng.choice([1, 1, 2]))], ()))
                 for kind in "abc"[:rng.randint(1, 3)]]
        if all(len(flat(row)) <= 12 for _, row in kinds):
            found.append(Program(kinds))
    return found


def some_programs():
    """Programs with none to three locks, which stick or not."""
    return [TWO, LOCKED, RING, DOOR, LATER, Program([LOOP, MAZE]), Program([OPEN]), Program([NESTED]),
            Program([NESTED, ("b", both("n", "m"))]), *small_programs(15, 401, 2, 6, locks=()),
            *small_programs(15, 402, 2, 8, locks=("m",)), *small_programs(20, 403, 3, 8, names=("x",)),
            *small_programs(20, 404, 3, 9, names=("x",), locks=("m", "l", "k")), *lock_programs(60, 405)]


def stuck_places(run):
    return [(kind, run.place(thread)) for thread, kind in enumerate(run.threads)]


class StuckTest(unittest.TestCase):
    def test_random_runs(self):
        rng = random.Random(9)
        seen = set()
        for program in some_programs():
            for _ in range(12):
                run = Run(program, [rng.choice(program.kinds) for _ in range(rng.randint(1, 5))])
                while len(run) < 14 and run.next_events() and rng.randrange(12):
                    run = run.then(rng.choice(run.next_events()))
                found = stuck_threads(run)
                self.assertEqual(found, slow_stuck(program, stuck_places(run)))
                seen.add(len(found))
        self.assertLessEqual({0, 2, 3}, seen)

    def test_all_short_runs(self):
        for program, threads in ((TWO, ["p", "q", "p"]), (RING, ["a", "b", "c"]), (DOOR, ["b", "a", "a"])):
            for run in all_runs(program, threads, most=5):
                self.assertEqual(stuck_threads(run), slow_stuck(program, stuck_places(run)))

    def test_no_stuck_thread_goes_on(self):
        seen = 0
        for program in (TWO, RING, DOOR, LATER):
            for run in all_runs(program, (program.kinds * 3)[:3], most=6):
                found = stuck_threads(run)
                if found:
                    seen += 1
                    self.go_on(run, found, 3)
        self.assertGreater(seen, 20)

    def go_on(self, run, found, most):
        for event in run.next_events():
            self.assertNotIn(event[0], found)
            if most:
                longer = run.then(event)
                self.assertLessEqual(set(found), set(stuck_threads(longer)))
                self.go_on(longer, found, most - 1)

    def test_examples(self):
        run = Run(TWO, ["p", "q"], [(0, 0), (1, 0), (0, 1), (0, 2), (1, 1), (1, 2)])
        self.assertEqual(stuck_threads(run), [0, 1])
        self.assertEqual(stuck_threads(run=Run(TWO, ["p", "q"], run.events[:-1])), [])
        self.assertEqual(stuck_threads(Run(TWO, ["p"])), [])
        ring = Run(RING, ["a", "b", "c"], [(0, 0), (1, 0), (2, 0)])
        self.assertEqual(stuck_threads(ring), [0, 1, 2])
        self.assertEqual(stuck_threads(Run(RING, ["a", "b", "c"], [(0, 0), (1, 0)])), [])

    def test_a_thread_that_waits_for_a_stuck_one(self):
        events = [(1, 0), (2, 0), (1, 1), (1, 2), (2, 1), (2, 2)]
        self.assertEqual(stuck_threads(Run(TWO, ["p", "p", "q"], events)), [0, 1, 2])
        program = Program([*[(kind, TWO.row(kind)) for kind in TWO.kinds], ("free", (OWN, OWN))])
        self.assertEqual(stuck_threads(Run(program, ["free", "p", "q"], events)), [1, 2])
        self.assertEqual(stuck_threads(Run(program, ["p", "p", "q", "free"], [*events, (3, 0)])), [0, 1, 2])

    def test_a_thread_with_a_free_step(self):
        run = Run(DOOR, ["a", "b"], [(0, 0), (1, 0)])
        self.assertEqual(run.next_events(), [(0, 3)])
        self.assertEqual(stuck_threads(run), [])

    def test_a_thread_at_its_end(self):
        run = Run(Program([("a", both("k", "l")), ("b", (("take", "k"), ("give", "k")))]), ["a", "b"],
                  [(1, 0), (1, 1), (0, 0), (0, 1), (0, 2), (0, 3)])
        self.assertEqual([run.next_events(), stuck_threads(run)], [[], []])

    def test_a_thread_waits_but_not_for_a_stuck_one(self):
        run = Run(LOCKED, ["put", "put", "put"], [(1, 0)])
        self.assertEqual(stuck_threads(run), [])

    def test_results_are_new(self):
        run = Run(RING, ["a", "b", "c"], [(0, 0), (1, 0), (2, 0)])
        stuck_threads(run).clear()
        self.assertEqual(stuck_threads(run), [0, 1, 2])


class StickingRunTest(unittest.TestCase):
    def test_fewest_stuck_threads(self):
        seen = {}
        for program in some_programs():
            found = sticking_run(program)
            fewest = slow_fewest(program)
            seen[fewest] = seen.get(fewest, 0) + 1
            self.assertIs(found is None, fewest is None)
            if found is not None:
                self.assertTrue(found.__class__ is Run and found.program == program)
                self.assertEqual(len(found.threads), fewest)
                self.assertEqual(slow_stuck(program, stuck_places(found)), list(range(fewest)))
                self.assertIsNone(Replay(program, found.threads, found.events).fault)
                self.assertTrue(2 <= fewest <= len(program.locks))
        self.assertGreater(min(seen[None], seen[2]), 5)
        self.assertIn(3, seen)

    def test_examples(self):
        self.assertEqual([len(sticking_run(TWO).threads), len(sticking_run(program=RING).threads)], [2, 3])
        self.assertIsNone(sticking_run(LOCKED))
        self.assertIsNone(sticking_run(DOOR))
        self.assertIsNone(sticking_run(Program([("a", (OWN,))])))
        later = sticking_run(LATER)
        self.assertEqual([sorted(later.threads), stuck_threads(later)], [["a", "b"], [0, 1]])


class CalmTableTest(unittest.TestCase):
    def test_against_the_definition(self):
        seen = {True: 0, False: 0}
        for program in some_programs():
            found = calm_table(program)
            self.assertEqual(found, slow_calm_table(program))
            self.assertIs(found is None, slow_fewest(program) is not None)
            self.assertIs(found is None, sticking_run(program) is not None)
            seen[found is None] += 1
            if found is not None:
                self.assertEqual(found, sorted(set(found)))
                self.assertIs(is_calm_table(program, found), True)
        self.assertGreater(min(seen.values()), 10)

    def test_examples(self):
        self.assertEqual(calm_table(LOCKED), [(), (("put", 0),), (("put", 1),), (("put", 2),)])
        self.assertEqual([calm_table(TWO), calm_table(RING)], [None, None])
        self.assertEqual(calm_table(program=Program([("a", (OWN,))])), [()])
        calm_table(LOCKED).clear()
        self.assertEqual(len(calm_table(LOCKED)), 4)

    def test_values_that_are_nearly_tables(self):
        rng = random.Random(10)
        seen = {True: 0, False: 0}
        for program in some_programs():
            table = calm_table(program) or [(), (("p", 0),), (("q", 0),)]
            places = [pair for pair in all_pairs(program) if locks_at(program, pair)]
            values = [table, table[::-1], rng.sample(table, len(table)), table * 2, tuple(table),
                      [list(one) for one in table],
                      table + [table[-1]], [None, *table]]
            for _ in range(4):
                at = rng.randrange(len(table))
                values.append(table[:at] + table[at + 1:])
                more = tuple(sorted(rng.sample(places, min(len(places), rng.randint(1, 2)))))
                values.extend([[*table, more], [*table, more[::-1]], table[:at] + [more] + table[at + 1:]])
                values.append(table[:at] + [table[at] + (("a", -1),)] + table[at + 1:])
                values.append(table[:at] + [table[at][::-1]] + table[at + 1:])
            for value in values:
                found = is_calm_table(program, value)
                self.assertIs(found, slow_is_calm_table(program, value))
                seen[found] += 1
        self.assertGreater(min(seen.values()), 200)

    def test_each_state_is_needed(self):
        for program in some_programs():
            table = calm_table(program) or []
            for at in range(len(table)):
                self.assertIs(is_calm_table(program, table[:at] + table[at + 1:]), False)

    def test_states_of_programs_that_stick(self):
        for program in (TWO, RING, LATER):
            states = [()]
            for state in states:
                states.extend(after for after in calm_moves(program, state) if after not in states)
            self.assertIs(is_calm_table(program, states), False)
            self.assertIs(is_calm_table(program, [state for state in states if not slow_stuck(program, state)]), False)

    def test_any_value(self):
        for value in [*odd_values(), 0, "x", ((),), [(), (("put", 0), ("put", 1))], [(), ("put", 0)],
                      [(), (("put", False),)], [(), (("put", True),), (("put", 1),), (("put", 2),)],
                      [(), (["put", 0],)], [(), (("put", "0"),)], [(), (([], 0),)], [(), (("put", [0]),)]]:
            self.assertIs(is_calm_table(LOCKED, value), False)
        self.assertIs(is_calm_table(value=[()], program=Program([("a", (OWN,))])), True)
        self.assertIs(is_calm_table(Program([("a", (OWN,))]), []), False)
