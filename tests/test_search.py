"""[24] Runs that break a stretch."""

import unittest

from unbrokenruns.chains import depends, passes, ring
from unbrokenruns.programs import Program
from unbrokenruns.runs import Run
from unbrokenruns.search import breaking_run, fewest_others, most_others
from unbrokenruns.stretches import Stretch, all_stretches
from unbrokenruns.tables import is_unbroken
from tests.slow import Replay, all_passes
from tests.slow_states import crowd_breaks, small_programs

OWN = ("own",)
THREE = Program([("b", (("read", "x"), ("read", "y"))), ("c", (("write", "x"),)), ("d", (("write", "y"),))])


def comes_back(run, positions):
    """Whether a chain leaves these positions and comes back to them."""
    reached = []
    for at in range(len(run)):
        if at in positions:
            if any(depends(run, before, at) for before in reached):
                return True
        elif any(depends(run, before, at) for before in [one for one in positions if one < at] + reached):
            reached.append(at)
    return False


def reads(*names):
    return tuple(("read", name) for name in names)


def locked(name, row=()):
    return (("take", name), *row, ("give", name))


def choose(*rows):
    """A row that consists of one choose of up to five rows."""
    if len(rows) > 3:
        return (("choose", *rows[:2], choose(*rows[2:])),)
    return (("choose", *rows),)


class BreakingTest(unittest.TestCase):
    def check(self, stretch, expected=0):
        """Checks the run that breaks a stretch; returns the number of its other threads."""
        run = breaking_run(stretch)
        many = fewest_others(stretch)
        self.assertIs(is_unbroken(stretch), run is None)
        if run is None:
            self.assertIsNone(many)
            return None
        self.assertIs(run.__class__, Run)
        self.assertEqual(run.program, stretch.program)
        self.assertEqual(run.threads[0], stretch.kind)
        self.assertEqual(many, len(run.threads) - 1)
        self.assertLessEqual(many, most_others(stretch.program))
        self.assertIsNone(Replay(run.program, run.threads, run.events).fault)
        self.assertEqual(passes(run, stretch), all_passes(run, stretch))
        own = [passing for passing in passes(run, stretch) if passing[0] == 0]
        self.assertTrue(any(ring(run, passing) for passing in own))
        self.assertTrue(any(comes_back(run, passing[1]) for passing in own))
        return many

    def test_fewest_threads_against_all_runs(self):
        seen = {None: 0, 1: 0, 2: 0, 3: 0}
        programs = (small_programs(80, 81, 2, 4, locks=()) + small_programs(80, 82, 2, 5, names=("x",), locks=("m",))
                    + small_programs(30, 83, 2, 6, names=("x",)))
        programs += [Program([("a", (("read", "x"), ("read", "y"))), ("b", (("write", "x"), ("write", "y")))]),
                     Program([("a", (("read", "x"), ("add", "y"))), ("b", (("add", "x"), ("add", "z"))),
                              ("c", (("read", "z"), ("read", "y")))]),
                     Program([("a", (("take", "m"), ("read", "x"), ("give", "m"))), ("b", locked("m", reads("x"))),
                              ("c", (("write", "x"),))]), THREE]
        for program in programs:
            for kind in program.kinds:
                for stretch in all_stretches(program, kind):
                    many = self.check(stretch)
                    seen[many] += 1
                    for others in range(1, 3 if many is None else many):
                        self.assertFalse(crowd_breaks(stretch, others))
                    if many is not None and many < 3:
                        self.assertTrue(crowd_breaks(stretch, many))
        self.assertGreater(min(seen.values()), 2)

    def test_random_stretches(self):
        for program in small_programs(40, 84, 3, 9) + small_programs(40, 85, 3, 12, locks=("m", "n", "k")):
            for kind in program.kinds:
                for stretch in all_stretches(program, kind):
                    self.check(stretch)

    def test_example(self):
        whole = Stretch(THREE, "b", (), 0, 2)
        self.assertEqual([most_others(THREE), fewest_others(whole), self.check(whole)], [3, 3, 3])
        self.assertIs(crowd_breaks(whole, 2), False)
        self.assertIs(crowd_breaks(whole, 3), True)
        self.assertEqual(len(breaking_run(stretch=whole).threads), 4)
        self.assertEqual(fewest_others(stretch=whole), 3)

    def test_unbroken_stretches(self):
        for begin in (0, 1):
            single = Stretch(THREE, "b", (), begin, begin + 1)
            self.assertIsNone(breaking_run(single))
            self.assertIsNone(fewest_others(single))

    def test_chains_through_many_threads(self):
        """The watched thread holds a lock, so no other one of its kind can make the chain shorter."""
        names = ["x", "y", "z", "u"]
        writers = ("w", choose(*[(("write", name),) for name in names]))
        links = [reads("x", "y"), reads("y", "z"), reads("z", "u")]
        for many in (1, 2, 3):
            program = Program([("a", locked("m", reads("x", names[many]))), writers,
                               ("b", choose(*links[:many]) if many > 1 else links[0])])
            self.assertEqual(self.check(Stretch(program, "a", (), 1, 3)), 2 * many + 1)
        program = Program([("a", locked("k", (*reads("x"), *locked("m")))), writers, ("b", choose(*links)),
                           ("c", choose((*reads("u"), *locked("n")), (*locked("n"), *locked("m"))))])
        stretch = Stretch(program, "a", (), 1, 4)
        self.assertEqual([self.check(stretch), most_others(program)], [9, 10])

    def test_a_thread_that_must_hold_a_lock_before_the_pass_begins(self):
        """The second thread has given n, but still holds m, when the first one takes n."""
        program = Program([("a", (("take", "n"), ("read", "x"), ("read", "x"), ("give", "n"))),
                           ("b", locked("m", (*locked("n"), ("write", "x"))))])
        self.assertEqual(self.check(Stretch(program, "a", (), 1, 3)), 1)
        self.assertEqual(self.check(Stretch(program, "a", (), 0, 4)), 1)
        closed = Program([("a", (("take", "n"), ("read", "x"), ("read", "x"), ("give", "n"))),
                          ("b", locked("m", (*locked("n", (("write", "x"),)),)))])
        self.assertIsNone(self.check(Stretch(closed, "a", (), 0, 4)))

    def test_a_pass_behind_locks_that_were_given(self):
        row = locked("m", (*locked("n"), *locked("k"), *reads("x", "x")))
        program = Program([("a", row), ("b", (("write", "x"),))])
        self.assertEqual([self.check(Stretch(program, "a", (), *ends)) for ends in ((5, 7), (0, 8), (4, 7), (0, 6))],
                         [1, 1, 1, None])

    def test_other_threads_behind_locks_that_they_have_given(self):
        """The first thread holds n and k, so another one has to have given them before, while it holds m."""
        links = (*locked("n"), *locked("k"), *locked("n"))
        program = Program([("a", locked("n", locked("k", reads("x", "x")))),
                           ("b", locked("m", (*links, ("write", "x"))))])
        self.assertEqual([self.check(Stretch(program, "a", (), 2, 4)), self.check(Stretch(program, "a", (), 0, 6))],
                         [1, 1])
        self.assertIs(crowd_breaks(Stretch(program, "a", (), 2, 4), 1), True)
        later = Program([("a", locked("n", locked("k", reads("x", "y")))), ("c", (("write", "x"), *reads("z"))),
                         ("b", locked("m", (*links, ("write", "z"), ("write", "y"))))])
        self.assertEqual(self.check(Stretch(later, "a", (), 2, 4)), 2)

    def test_one_long_way_comes_before_two_short_ones(self):
        links = (*locked("n"), *locked("n"), *locked("n"), *locked("n"))
        long = ("b", locked("m", (("write", "x"), *links, ("write", "y"))))
        short = [("c", (("write", "x"), ("write", "z"))), ("d", (("read", "z"), ("write", "y")))]
        first = ("a", reads("x", "y"))
        self.assertEqual([self.check(Stretch(Program([first, long, *short]), "a", (), 0, 2)),
                          self.check(Stretch(Program([first, long]), "a", (), 0, 2)),
                          self.check(Stretch(Program([first, *short]), "a", (), 0, 2))], [1, 1, 2])

    def test_a_shorter_way_is_barred_by_a_lock(self):
        ways = choose(locked("n"), (OWN, OWN, OWN))
        for row in (ways + (("write", "x"),), locked("m", (("write", "x"), *ways)),
                    locked("m", (*ways, ("write", "x")))):
            program = Program([("a", locked("n", reads("x", "x"))), ("b", row)])
            self.assertEqual(self.check(Stretch(program, "a", (), 0, 4)), 1)
        several = Program([("a", locked("n", reads("x", "y"))), ("b", locked("m", (("write", "x"), *ways))),
                           ("c", (*ways, ("read", "x"), OWN, ("write", "y")))])
        self.assertEqual(self.check(Stretch(several, "a", (), 1, 3)), 2)
        behind = Program([("a", locked("n", reads("x", "y"))), ("b", locked("m", (("write", "x"), *ways))),
                          ("c", locked("m", (("read", "x"), ("write", "y"))))])
        self.assertEqual(self.check(Stretch(behind, "a", (), 1, 3)), 2)

    def test_going_around(self):
        program = Program([("a", (("repeat", (("add", "x"),)), OWN)), ("b", (("read", "x"),))])
        self.assertEqual([self.check(Stretch(program, "a", *span))
                          for span in (((), 0, 1), ((), 0, 2), (((0, 0),), 0, 1), ((), 1, 2))], [1, 1, None, None])


class MostOthersTest(unittest.TestCase):
    def test_numbers(self):
        for variables in range(5):
            for locks in range(4):
                row = tuple(("read", name) for name in "wxyz"[:variables])
                row += tuple((word, name) for name in "lmn"[:locks] for word in ("take", "give"))
                program = Program([("a", row or (OWN,))])
                self.assertEqual(most_others(program), max(2, 2 * variables + locks - 1))
        self.assertEqual(most_others(program=Program([("a", (OWN,))])), 2)
