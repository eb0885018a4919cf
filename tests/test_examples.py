"""The examples of the document that use the modules that exist."""

import builtins
import doctest
import pathlib
import unittest

from unbrokenruns.chains import passes, ring
from unbrokenruns.desk import Desk, tried
from unbrokenruns.errors import BadText, Broken, InvalidProgram
from unbrokenruns.gathering import exchanges, gathered
from unbrokenruns.guards import carried, cheapest, guarded, tried_guards
from unbrokenruns.movers import LatePaper, covers, motion
from unbrokenruns.pairs import bad_pairs, largest_unbroken
from unbrokenruns.places import follows, held, walks
from unbrokenruns.plays import played
from unbrokenruns.programs import Program
from unbrokenruns.removal import largest_removals, without_locks
from unbrokenruns.runs import Run
from unbrokenruns.search import fewest_others, most_others
from unbrokenruns.states import moves
from unbrokenruns.stretches import Stretch, all_stretches, rows
from unbrokenruns.stuck import calm_table, stuck_threads, sticking_run
from unbrokenruns.tables import is_unbroken, table
from unbrokenruns.texts import program_text, read_program, steps_table, stretch_text
from unbrokenruns.together import first_ring, pass_ring, serial_order

THREE = Program([("b", (("read", "x"), ("read", "y"))), ("c", (("write", "x"),)), ("d", (("write", "y"),))])
PAIR = Program([("put", (("read", "x"), ("write", "x")))])
LOCKED = Program([("put", (("take", "m"), ("read", "x"), ("write", "x"), ("give", "m")))])
TWO = Program([
    ("p", (("take", "l"), ("write", "x"), ("read", "y"), ("take", "m"), ("give", "m"), ("give", "l"))),
    ("q", (("take", "m"), ("write", "y"), ("read", "x"), ("take", "l"), ("give", "l"), ("give", "m")))])
WISHED = [Stretch(TWO, "p", (), 1, 3), Stretch(TWO, "q", (), 1, 3)]
LOOP = ("loop", (("repeat", (("take", "m"), ("read", "x"), ("give", "m"))), ("own",)))


class ExamplesTest(unittest.TestCase):
    def test_programs(self):
        self.assertEqual(Program([LOOP]).steps("loop"), [("take", "m"), ("read", "x"), ("give", "m"), ("own",)])
        with self.assertRaises(InvalidProgram) as caught:
            Program([("bad", (("take", "m"), ("give", "n")))])
        self.assertEqual((caught.exception.index, caught.exception.why), (0, "lock"))

    def test_places(self):
        program = Program([LOOP])
        self.assertEqual([follows(program, "loop", 2), held(program, "loop", 1), list(walks(program, "loop", most=1))],
                         [[(0, True), (3, False)], ["m"], [[], [0], [3]]])

    def test_stretches(self):
        program = Program([LOOP])
        stretch = Stretch(program, "loop", ((0, 0),), 1, 3)
        self.assertEqual([stretch.steps(), len(stretch), 2 in stretch,
                          stretch.within(Stretch(program, "loop", (), 0, 1))], [[1, 2], 2, True, True])
        self.assertEqual([rows(program, "loop"), len(list(all_stretches(program, "loop")))], [[(), ((0, 0),)], 9])

    def test_runs(self):
        run = Run(Program([LOOP]), ["loop", "loop"], [(0, 0), (0, 1)])
        self.assertEqual([run.next_events(), run.holders, run.without(1).threads],
                         [[(0, 2), (1, 3)], {"m": 0}, ["loop"]])

    def test_plays(self):
        run = Run(PAIR, ["put", "put"], [(0, 0), (1, 0), (1, 1), (0, 1)])
        self.assertEqual(played(run, len, start={"x": 5}), ([[5], [5]], {"x": 1}))

    def test_chains(self):
        run = Run(PAIR, ["put", "put"], [(0, 0), (1, 0), (1, 1), (0, 1)])
        self.assertEqual(passes(run, Stretch(PAIR, "put", (), 0, 2)), [(0, [0, 3]), (1, [1, 2])])
        self.assertEqual([ring(run, (0, [0, 3])), ring(run, (1, [1, 2]))], [[0, 2, 3], None])

    def test_gathering(self):
        run = Run(PAIR, ["put", "put"], [(0, 0), (1, 0), (0, 1)])
        self.assertEqual([exchanges(run, (0, [0, 2])), gathered(run, (0, [0, 2])).events],
                         [[0], [(1, 0), (0, 0), (0, 1)]])
        with self.assertRaises(Broken) as caught:
            gathered(Run(PAIR, ["put", "put"], [(0, 0), (1, 0), (1, 1), (0, 1)]), (0, [0, 3]))
        self.assertEqual(caught.exception.ring, [0, 2, 3])

    def test_states(self):
        whole = Stretch(PAIR, "put", (), 0, 2)
        self.assertEqual(moves(whole, (-1, (), ())), ([(0, (), ()), (0, (), ("own", "x", "read"))], False))
        self.assertIs(moves(whole, (0, (), ("object", "x", "write")))[1], True)

    def test_tables(self):
        whole = Stretch(PAIR, "put", (), 0, 2)
        self.assertEqual([is_unbroken(whole), is_unbroken(Stretch(PAIR, "put", (), 1, 2))], [False, True])
        self.assertEqual(table(Stretch(Program([("rest", (("own",),))]), "rest", (), 0, 1)),
                         [(-1, (), ()), (0, (), ())])

    def test_search(self):
        self.assertEqual([most_others(THREE), fewest_others(Stretch(THREE, "b", (), 0, 2))], [3, 3])

    def test_pairs(self):
        self.assertEqual(bad_pairs(THREE, "b"), [(0, 1, False)])
        spin = Program([("spin", (("repeat", (("add", "x"),)),)), ("look", (("read", "x"),))])
        self.assertEqual([bad_pairs(spin, "spin"), largest_unbroken(spin, "spin")[0].path],
                         [[(0, 0, True)], ((0, 0),)])

    def test_movers(self):
        self.assertEqual([covers(LOCKED, "x"), motion(LOCKED, "put", 1), motion(PAIR, "put", 1)],
                         [["m"], "free", "fixed"])
        self.assertEqual([LatePaper.least(Stretch(LOCKED, "put", (), 0, 4)).late,
                          LatePaper.least(Stretch(PAIR, "put", (), 0, 2))], [(3,), None])

    def test_together(self):
        whole = Stretch(PAIR, "put", (), 0, 2)
        run = Run(PAIR, ["put", "put"], [(0, 0), (1, 0), (1, 1), (0, 1)])
        self.assertEqual([pass_ring(run, [whole]), serial_order(run, []),
                          serial_order(Run(PAIR, ["put"], [(0, 0)]), [whole])], [[(0, 2), (1, 3)], [0, 1, 2, 3], [0]])
        self.assertEqual([is_unbroken(WISHED[0]), is_unbroken(WISHED[1]),
                          len(first_ring(TWO, ["p", "q"], WISHED, most=6))], [True, True, 6])

    def test_stuck(self):
        self.assertEqual(calm_table(LOCKED), [(), (("put", 0),), (("put", 1),), (("put", 2),)])
        self.assertEqual([calm_table(TWO), len(sticking_run(TWO).threads)], [None, 2])
        self.assertEqual(stuck_threads(Run(TWO, ["p", "q"], [(0, 0), (1, 0), (0, 1), (0, 2), (1, 1), (1, 2)])), [0, 1])

    def test_removal(self):
        self.assertEqual(without_locks(LOCKED, ["m"]).steps("put"), [("own",), ("read", "x"), ("write", "x"), ("own",)])
        self.assertEqual(largest_removals(TWO, [WISHED[0]]), [("m",)])

    def test_guards(self):
        whole, first = Stretch(PAIR, "put", (), 0, 2), Stretch(PAIR, "put", (), 0, 1)
        self.assertEqual(list(tried_guards(PAIR, [whole], [whole, first], lock="m")),
                         [(0, (), ("broken", 0)), (1, (1,), ("broken", 0)), (2, (0,), None)])
        self.assertEqual([guarded(PAIR, [whole], lock="m") == LOCKED, carried(PAIR, [whole], whole, lock="m").steps()],
                         [True, [1, 2]])
        self.assertEqual(cheapest(PAIR, [whole], [whole, first], lock="m"), (2, [whole]))

    def test_desk(self):
        desk = Desk(PAIR)
        whole = Stretch(PAIR, "put", (), 0, 2)
        self.assertEqual([desk.answer(whole), tried(desk, [("silence", "put", 0)], [whole]), desk.known(whole),
                          desk.undoable], [False, [True], False, 0])

    def test_texts(self):
        program = Program([LOOP])
        self.assertEqual([program_text(program), stretch_text(Stretch(program, "loop", ((0, 0),), 1, 3))],
                         ["loop: repeat (take m; read x; give m); own", "loop 0.0 1-3"])
        self.assertEqual(steps_table(program, "loop")[1], " 1 read  x        free    m")
        with self.assertRaises(BadText) as caught:
            read_program("a: own\nb: own;own")
        self.assertEqual(caught.exception.line, 2)

    def test_the_examples_of_the_readme(self):
        readme = pathlib.Path(__file__).resolve().parent.parent / "README.md"
        # Showing a value gives it the name _ among the builtins, which test_language looks at.
        self.addCleanup(vars(builtins).pop, "_", None)
        failures, tried = doctest.testfile(str(readme), module_relative=False)
        self.assertEqual(failures, 0)
        self.assertGreater(tried, 10)
