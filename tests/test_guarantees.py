"""[3] The guarantees, tried over small programs."""

import itertools
import random
import unittest

from unbrokenruns.chains import depends, passes, ring
from unbrokenruns.desk import Desk
from unbrokenruns.gathering import exchanged, exchanges
from unbrokenruns.guards import carried, guarded, is_balanced
from unbrokenruns.movers import LatePaper
from unbrokenruns.pairs import bad_pairs, holds, largest_unbroken
from unbrokenruns.plays import played
from unbrokenruns.programs import Program
from unbrokenruns.runs import Run, all_runs
from unbrokenruns.search import fewest_others, most_others
from unbrokenruns.states import moves
from unbrokenruns.stretches import all_stretches
from unbrokenruns.stuck import calm_table, is_calm_table, sticking_run, stuck_threads
from unbrokenruns.tables import is_table, is_unbroken, table
from unbrokenruns.texts import program_text, read_program, read_run, read_stretch, run_text, stretch_text
from unbrokenruns.together import is_pass_ring, is_serial_order, pass_ring, serial_order, serial_run, together
from tests.models import LOOP, MAZE, OPEN, catch, random_rows
from tests.slow import Replay, orders, stand_together
from tests.slow_states import all_states, closure, crowd_breaks, crowd_pairs, small_programs
from tests.test_desk import right_edits

PAIR = ("put", (("read", "x"), ("write", "x")))


def random_runs(seed, most):
    """Runs of random programs of two kinds and of two to four threads."""
    rng = random.Random(seed)
    rows = [LOOP[1], MAZE[1], OPEN[1], PAIR[1], *random_rows(80, seed, most=9)]
    for one, other in zip(rows, rows[1:]):
        program = Program([("a", one), ("b", other)])
        for _ in range(2):
            run = Run(program, [rng.choice("ab") for _ in range(rng.randint(2, 4))])
            while len(run) < most and run.next_events():
                run = run.then(rng.choice(run.next_events()))
            yield run


def told(values):
    total = 1
    for value in values:
        total = total * 7 + value
    return total


class GuaranteeATest(unittest.TestCase):
    def test_threads_left_out_leave_a_run(self):
        for run in random_runs(41, 14):
            many = len(run.threads)
            for count in range(many):
                for leaving in itertools.combinations(range(many), count):
                    kept = [thread for thread in range(many) if thread not in leaving]
                    threads = [run.threads[thread] for thread in kept]
                    events = [(kept.index(thread), step) for thread, step in run.events if thread in kept]
                    self.assertIsNone(Replay(run.program, threads, events).fault)
                    self.assertEqual(run.without(*leaving), Run(run.program, threads, events))

    def test_exchanged_neighbours_play_alike(self):
        exchanges_seen = 0
        for run in random_runs(42, 14):
            for at in range(len(run) - 1):
                if not depends(run, at, at + 1):
                    exchanges_seen += 1
                    other = exchanged(run, at)
                    self.assertIsNone(Replay(run.program, run.threads, other.events).fault)
                    for rule in (len, sum, told):
                        for start in (None, {name: 3 for name in run.program.variables}):
                            self.assertEqual(played(run, rule, start=start), played(other, rule, start=start))
        self.assertGreater(exchanges_seen, 300)

    def test_dependent_neighbours_may_play_differently(self):
        run = Run(Program([PAIR]), ["put", "put"], [(0, 0), (0, 1), (1, 0)])
        other = Run(Program([PAIR]), ["put", "put"], [(0, 0), (1, 0), (0, 1)])
        self.assertNotEqual(played(run, len), played(other, len))


class GuaranteeBTest(unittest.TestCase):
    def check(self, run, passing):
        """A pass can be brought together by exchanges exactly if it has no ring."""
        reached = orders(run)
        possible = any(stand_together(order, passing[1]) for order in reached)
        self.assertIs(ring(run, passing) is None, possible)
        self.assertIs(catch(exchanges, run, passing) is None, possible)
        return possible

    def test_all_small_runs_of_small_programs(self):
        seen = [0, 0]
        programs = [[PAIR], [("a", (("read", "x"), ("read", "x"))), ("b", (("add", "x"),))],
                    [("a", (("add", "x"), ("take", "m"), ("give", "m"))), ("b", (("take", "m"), ("give", "m")))],
                    [("a", (("repeat", (("read", "x"),)),)), ("b", (("choose", (("write", "x"),), (("own",),)),))]]
        for kinds in programs:
            program = Program(kinds)
            stretches = [stretch for kind in program.kinds for stretch in all_stretches(program, kind)]
            for threads in itertools.combinations_with_replacement(program.kinds, 3):
                for run in all_runs(program, list(threads), most=5):
                    for stretch in stretches:
                        for passing in passes(run, stretch):
                            if len(passing[1]) > 1:
                                seen[self.check(run, passing)] += 1
        self.assertGreater(min(seen), 100)

    def test_random_runs(self):
        seen = [0, 0]
        for run in random_runs(43, 7):
            for kind in run.program.kinds:
                for stretch in all_stretches(run.program, kind):
                    for passing in passes(run, stretch):
                        if len(passing[1]) > 1:
                            seen[self.check(run, passing)] += 1
        self.assertGreater(min(seen), 30)


def programs_with_stretches():
    """Small programs, each with all stretches of all its kinds."""
    programs = (small_programs(25, 44, 2, 4, names=("x",), locks=()) + small_programs(6, 45, 2, 4, locks=())
                + small_programs(25, 46, 2, 5, names=("x",), locks=("m",)))
    return [(program, [stretch for kind in program.kinds for stretch in all_stretches(program, kind)])
            for program in programs]


class GuaranteeCTest(unittest.TestCase):
    def test_broken_exactly_if_a_pass_is_broken_in_a_run(self):
        seen = [0, 0]
        for program, stretches in programs_with_stretches():
            for stretch in stretches:
                # More threads than these are not needed, as the definition of a chain shows.
                broken = crowd_breaks(stretch, most_others(program))
                seen[broken] += 1
                self.assertIs(is_unbroken(stretch), not broken)
                many = fewest_others(stretch)
                self.assertIs(many is not None, broken)
                if broken:
                    self.assertLessEqual(many, max(2, 2 * len(program.variables) + len(program.locks) - 1))
                    self.assertIs(crowd_breaks(stretch, many), True)
                    self.assertIs(many > 1 and crowd_breaks(stretch, many - 1), False)
        self.assertGreater(min(seen), 50)

    def test_passes_of_all_short_runs(self):
        for program, stretches in programs_with_stretches():
            broken = []
            for threads in itertools.combinations_with_replacement(program.kinds, 3):
                for run in all_runs(program, list(threads), most=4):
                    broken.extend(stretch for stretch in stretches if stretch not in broken
                                  and any(ring(run, passing) for passing in passes(run, stretch)))
            self.assertTrue(all(not is_unbroken(stretch) for stretch in broken))


class GuaranteeDTest(unittest.TestCase):
    def test_an_accepted_table_means_an_unbroken_stretch(self):
        rng = random.Random(45)
        accepted = 0
        for program, stretches in programs_with_stretches():
            for stretch in stretches:
                states = all_states(stretch)
                given = [closure(stretch, [(-1, (), ())])[0],
                         closure(stretch, [(-1, (), ()), rng.choice(states)])[0],
                         [state for state in states if not moves(stretch, state)[1]], states]
                for value in given:
                    if is_table(stretch, list(value)):
                        accepted += 1
                        self.assertIs(crowd_breaks(stretch, most_others(program)), False)
        self.assertGreater(accepted, 50)

    def test_each_unbroken_stretch_has_a_smallest_table(self):
        for program, stretches in programs_with_stretches():
            for stretch in stretches:
                found = table(stretch)
                self.assertIs(found is None, crowd_breaks(stretch, most_others(program)))
                if found is not None:
                    self.assertIs(is_table(stretch, found), True)
                    for at in range(len(found)):
                        self.assertIs(is_table(stretch, found[:at] + found[at + 1:]), False)


class GuaranteeETest(unittest.TestCase):
    def test_bad_pairs_and_unbroken_stretches(self):
        for program, stretches in programs_with_stretches():
            bad = {kind: crowd_pairs(program, kind, most_others(program)) for kind in program.kinds}
            for stretch in stretches:
                broken = crowd_breaks(stretch, most_others(program))
                self.assertIs(any(holds(stretch, pair) for pair in bad[stretch.kind]), broken)
                self.assertIs(any(holds(stretch, pair) for pair in bad_pairs(program, stretch.kind)), broken)

    def test_stretches_within_unbroken_ones(self):
        programs = programs_with_stretches() + [
            (program, [stretch for kind in program.kinds for stretch in all_stretches(program, kind)])
            for program in small_programs(30, 47, 3, 9)]
        for program, stretches in programs:
            unbroken = [stretch for stretch in stretches if is_unbroken(stretch)]
            largest = [stretch for kind in program.kinds for stretch in largest_unbroken(program, kind)]
            for stretch in stretches:
                self.assertIs(stretch in unbroken, any(stretch.within(outer) for outer in unbroken))
                self.assertIs(stretch in unbroken, any(stretch.within(outer) for outer in largest))


class GuaranteeFTest(unittest.TestCase):
    def test_a_paper_that_stands_means_an_unbroken_stretch(self):
        standing = 0
        for program, stretches in programs_with_stretches():
            for stretch in stretches:
                broken = crowd_breaks(stretch, most_others(program))
                steps = stretch.steps()
                for late in [[step for at, step in enumerate(steps) if number >> at & 1]
                             for number in range(1 << len(steps))]:
                    if LatePaper(stretch, late).stands:
                        standing += 1
                        self.assertIs(broken, False)
                if not program.locks:
                    self.assertIs(LatePaper.least(stretch) is None, broken)
        self.assertGreater(standing, 200)

    def test_larger_stretches(self):
        for program in small_programs(30, 48, 3, 10) + small_programs(30, 49, 3, 10, locks=()):
            for kind in program.kinds:
                for stretch in all_stretches(program, kind):
                    paper = LatePaper.least(stretch)
                    if paper is not None:
                        self.assertIs(is_unbroken(stretch), True)
                    elif not program.locks:
                        self.assertIs(is_unbroken(stretch), False)


class GuaranteeGTest(unittest.TestCase):
    def apart(self, stretches):
        found = []
        for stretch in stretches:
            if not any(stretch.kind == one.kind and set(stretch.steps()) & set(one.steps()) for one in found):
                found.append(stretch)
        return found

    def test_a_serial_order_or_a_ring_of_units(self):
        seen = [0, 0]
        for program, stretches in programs_with_stretches()[:40]:
            chosen = self.apart(sorted(stretches, key=lambda one: -len(one)))
            for threads in itertools.combinations_with_replacement(program.kinds, 3):
                for run in all_runs(program, list(threads), most=4):
                    order, found = serial_order(run, chosen), pass_ring(run, chosen)
                    seen[order is None] += 1
                    if order is None:
                        self.assertIs(is_pass_ring(run, chosen, found), True)
                    else:
                        self.assertIsNone(found)
                        self.assertIs(is_serial_order(run, chosen, order), True)
                        self.assertIsNone(Replay(program, run.threads, serial_run(run, chosen).events).fault)
        self.assertGreater(min(seen), 50)

    def test_unbroken_one_by_one_with_at_most_one_lock(self):
        runs = 0
        for program, stretches in programs_with_stretches():
            chosen = self.apart([one for one in sorted(stretches, key=lambda one: -len(one)) if is_unbroken(one)])
            self.assertIs(together(program, chosen), True)
            for threads in itertools.combinations_with_replacement(program.kinds, 3):
                for run in all_runs(program, list(threads), most=5):
                    runs += 1
                    self.assertIsNotNone(serial_order(run, chosen))
        self.assertGreater(runs, 5000)


class GuaranteeHTest(unittest.TestCase):
    def test_stuck_in_a_run_or_calm(self):
        take = [(("take", one), ("take", other), ("give", other), ("give", one))
                for one, other in ("lm", "ml", "mk", "kl")]
        programs = [Program(list(zip("ab", rows))) for rows in itertools.combinations(take, 2)]
        programs += [Program(list(zip("abc", rows))) for rows in itertools.combinations(take, 3)]
        seen = [0, 0]
        for program in programs + small_programs(15, 50, 2, 6, names=("x",)):
            table = calm_table(program)
            seen[table is None] += 1
            self.assertIs(sticking_run(program) is None, table is not None)
            if table is not None:
                self.assertIs(is_calm_table(program, table), True)
            sticking = False
            for threads in itertools.combinations_with_replacement(program.kinds, 3):
                sticking = sticking or any(stuck_threads(run) for run in all_runs(program, list(threads), most=4))
            # In these programs four events are enough for threads to be stuck.
            self.assertIs(sticking, table is None)
        self.assertGreater(min(seen), 3)


class GuaranteeJTest(unittest.TestCase):
    def test_known_verdicts_stay_right_and_undone_edits_leave_no_trace(self):
        kept = {True: 0, False: 0}
        rng = random.Random(51)
        programs = small_programs(30, 52, 2, 4, names=("x", "y"), locks=()) + small_programs(
            20, 53, 2, 5, names=("x",), locks=("m",))
        for program in programs:
            edits = right_edits(program)
            for edit in rng.sample(edits, min(4, len(edits))):
                desk = Desk(program)
                stretches = [stretch for kind in program.kinds for stretch in all_stretches(program, kind)]
                before = [desk.answer(stretch) for stretch in stretches]
                desk.apply(edit)
                after = [stretch for kind in desk.now.kinds for stretch in all_stretches(desk.now, kind)]
                for stretch in after:
                    known = desk.known(stretch)
                    if known is not None:
                        kept[known] += 1
                        self.assertIs(known, not crowd_breaks(stretch, most_others(desk.now)))
                desk.answer(after[0])
                desk.apply(("undo",))
                self.assertEqual(desk.now, program)
                self.assertEqual([desk.known(stretch) for stretch in stretches], before)
                self.assertEqual([len(desk), desk.undoable], [len(stretches), 0])
        self.assertGreater(min(kept.values()), 50)


class OtherProgramsTest(unittest.TestCase):
    """The guarantees for programs that were guarded, edited or read from texts."""

    def check(self, program):
        most = most_others(program)
        for kind in program.kinds:
            for stretch in all_stretches(program, kind):
                broken = crowd_breaks(stretch, most)
                self.assertIs(is_unbroken(stretch), not broken)
                self.assertEqual(fewest_others(stretch) is None, not broken)
                self.assertIs(table(stretch) is None, broken)
                paper = LatePaper.least(stretch)
                self.assertTrue(paper is None or not broken)
                self.assertTrue(program.locks or (paper is None) is broken)
                self.assertEqual(read_stretch(program, stretch_text(stretch)), stretch)
            self.assertEqual(bad_pairs(program, kind), crowd_pairs(program, kind, most))
        self.assertIs(sticking_run(program) is None, calm_table(program) is not None)
        for threads in itertools.combinations_with_replacement(program.kinds, 2):
            for run in all_runs(program, list(threads), most=3):
                self.assertEqual(read_run(program, run_text(run)), run)
                self.assertIsNotNone(serial_order(run, []))

    def test_guarded_programs(self):
        rng = random.Random(54)
        for program in small_programs(12, 55, 2, 3, names=("x",), locks=()):
            stretches = [stretch for kind in program.kinds for stretch in all_stretches(program, kind)]
            guard = rng.choice([stretch for stretch in stretches if is_balanced(stretch)])
            new = guarded(program, [guard], lock="new")
            self.check(new)
            for stretch in stretches:
                moved = carried(program, [guard], stretch, lock="new")
                self.assertIs(is_unbroken(moved), not crowd_breaks(moved, most_others(new)))

    def test_edited_programs(self):
        rng = random.Random(56)
        for program in small_programs(15, 57, 2, 4, names=("x",), locks=("m",)):
            desk = Desk(program)
            for _ in range(2):
                if right_edits(desk.now):
                    edits = [edit for edit in right_edits(desk.now) if edit[0] != "add" or len(desk.now) == 1]
                    desk.apply(rng.choice(edits))
            self.check(desk.now)

    def test_programs_that_were_read(self):
        for program in small_programs(15, 58, 2, 4, names=("x",), locks=("m",)):
            again = read_program(program_text(program))
            self.assertEqual(again, program)
            self.check(again)
