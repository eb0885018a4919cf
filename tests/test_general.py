"""[2] What holds for all functions and methods, and the names of the interface."""

import importlib
import inspect
import unittest

from unbrokenruns.chains import chain, conflicts, depends, hanging, is_ring, passes, ring
from unbrokenruns.console import Console
from unbrokenruns.desk import Desk, Trial, tried
from unbrokenruns.gathering import exchanged, exchanges, gathered, is_gathering
from unbrokenruns.guards import carried, cheapest, cost, fault, guarded, is_balanced, tried_guards
from unbrokenruns.movers import LatePaper, covers, motion, next_in_pass
from unbrokenruns.pairs import bad_pairs, holds, largest_unbroken, unbroken_stretches
from unbrokenruns.places import follows, held, walks
from unbrokenruns.plays import played
from unbrokenruns.programs import Program
from unbrokenruns.removal import breaks, largest_removals, removals, without_locks
from unbrokenruns.runs import Run, all_runs
from unbrokenruns.search import breaking_run, fewest_others, most_others
from unbrokenruns.states import moves
from unbrokenruns.stretches import Stretch, all_stretches, rows
from unbrokenruns.stuck import calm_table, is_calm_table, sticking_run, stuck_threads
from unbrokenruns.tables import is_table, is_unbroken, table
from unbrokenruns.texts import (program_text, read_program, read_run, read_stretch, run_text, steps_table,
                                stretch_text)
from unbrokenruns.together import (first_ring, is_pass_ring, is_serial_order, pass_ring, serial_order, serial_run,
                                   together, units)
from tests.models import LOOP, MAZE

PAIR = ("put", (("read", "x"), ("write", "x")))

# For each module, what it defines: the parameters of a function, or for a class those of its methods.
FUNCTIONS = {
    "places": {"follows": "(program, kind, place)", "held": "(program, kind, place)",
               "walks": "(program, kind, *, most=4)"},
    "stretches": {"rows": "(program, kind)", "all_stretches": "(program, kind)"},
    "runs": {"all_runs": "(program, threads, *, most=6)"},
    "plays": {"played": "(run, rule, *, start=None)"},
    "chains": {"conflicts": "(one, other)", "depends": "(run, first, second)", "chain": "(run, first, second)",
               "hanging": "(run, positions)", "passes": "(run, stretch)", "ring": "(run, passing)",
               "is_ring": "(run, passing, value)"},
    "gathering": {"exchanged": "(run, position)", "gathered": "(run, passing)", "exchanges": "(run, passing)",
                  "is_gathering": "(run, passing, value)"},
    "states": {"moves": "(stretch, state)"},
    "tables": {"is_unbroken": "(stretch)", "table": "(stretch)", "is_table": "(stretch, value)"},
    "search": {"most_others": "(program)", "breaking_run": "(stretch)", "fewest_others": "(stretch)"},
    "pairs": {"bad_pairs": "(program, kind)", "holds": "(stretch, pair)",
              "unbroken_stretches": "(program, kind)", "largest_unbroken": "(program, kind)"},
    "movers": {"covers": "(program, variable)", "motion": "(program, kind, number)",
               "next_in_pass": "(stretch, number)"},
    "together": {"units": "(run, stretches)", "serial_order": "(run, stretches)", "serial_run": "(run, stretches)",
                 "pass_ring": "(run, stretches)", "is_serial_order": "(run, stretches, value)",
                 "is_pass_ring": "(run, stretches, value)", "first_ring": "(program, threads, stretches, *, most)",
                 "together": "(program, stretches)"},
    "stuck": {"stuck_threads": "(run)", "sticking_run": "(program)", "calm_table": "(program)",
              "is_calm_table": "(program, value)"},
    "removal": {"without_locks": "(program, locks)", "breaks": "(program, locks, stretches)",
                "removals": "(program, stretches)", "largest_removals": "(program, stretches)"},
    "guards": {"is_balanced": "(stretch)", "guarded": "(program, guards, *, lock)",
               "carried": "(program, guards, stretch, *, lock)", "fault": "(program, guards, wished, *, lock)",
               "cost": "(guards, *, step_cost=1, guard_cost=0)",
               "tried_guards": "(program, wished, choices, *, lock, step_cost=1, guard_cost=0)",
               "cheapest": "(program, wished, choices, *, lock, step_cost=1, guard_cost=0)"},
    "desk": {"tried": "(desk, edits, stretches)"},
    "texts": {"program_text": "(program)", "read_program": "(text)", "stretch_text": "(stretch)",
              "read_stretch": "(program, text)", "run_text": "(run)", "read_run": "(program, text)",
              "steps_table": "(program, kind)"},
}
CLASSES = {
    "programs": {"Program": {"__init__": "(self, kinds)", "row": "(self, kind)", "steps": "(self, kind)"}},
    "stretches": {"Stretch": {
        "__init__": "(self, program, kind, path, begin, end)", "steps": "(self)", "within": "(self, other)",
        "common": "(self, other)", "of": "(self, program)"}},
    "runs": {"Run": {
        "__init__": "(self, program, threads, events=())", "place": "(self, thread)", "step": "(self, position)",
        "then": "(self, event)", "next_events": "(self)", "without": "(self, *threads)"}},
    "movers": {"LatePaper": {"__init__": "(self, stretch, late)", "cut": "(self, inner)"}},
    "desk": {"Desk": {"__init__": "(self, program)", "apply": "(self, edit)", "answer": "(self, stretch)",
                      "known": "(self, stretch)"},
             "Trial": {"__init__": "(self, desk)"}},
    "console": {"Console": {"__init__": "(self, program)", "__call__": "(self, line)"}},
}
SIGNS = {"Program": ["__len__", "__contains__", "__eq__", "kinds", "variables", "locks", "MAX_KINDS",
                     "MAX_VARIABLES", "MAX_LOCKS"],
         "Stretch": ["__len__", "__contains__", "__eq__", "__lt__", "__and__"],
         "Run": ["__len__", "__iter__", "__contains__", "__eq__", "threads", "events", "holders"],
         "LatePaper": ["__len__", "__iter__", "__contains__", "__eq__", "__or__", "__and__", "stands", "least"],
         "Desk": ["__len__", "now", "undoable"], "Trial": ["__enter__", "__exit__"], "Console": ["__call__"]}
GENERATORS = ["walks", "all_stretches", "all_runs", "unbroken_stretches", "removals",
              "tried_guards"]


def module(name):
    return importlib.import_module("unbrokenruns." + name)


class InterfaceTest(unittest.TestCase):
    def test_functions(self):
        for name, functions in FUNCTIONS.items():
            for word, parameters in functions.items():
                found = getattr(module(name), word)
                with self.subTest(word):
                    self.assertEqual(found.__module__, "unbrokenruns." + name)
                    self.assertEqual(str(inspect.signature(found)), parameters)
                    self.assertEqual(inspect.isgeneratorfunction(found), word in GENERATORS)

    def test_classes(self):
        for name, classes in CLASSES.items():
            for word, methods in classes.items():
                found = getattr(module(name), word)
                self.assertEqual((found.__module__, found.__bases__), ("unbrokenruns." + name, (object,)))
                for method, parameters in methods.items():
                    with self.subTest(word, method=method):
                        self.assertEqual(str(inspect.signature(vars(found)[method])), parameters)
                for sign in SIGNS[word]:
                    self.assertIn(sign, vars(found))


class RulesTest(unittest.TestCase):
    def test_by_name_in_another_order(self):
        program = Program(kinds=(LOOP, MAZE))
        self.assertEqual(follows(place=0, program=program, kind="loop"), follows(program, "loop", 0))
        self.assertEqual(held(kind="loop", place=0, program=program), held(program, "loop", 0))
        self.assertEqual(list(walks(most=2, program=program, kind="maze")), list(walks(program, "maze", most=2)))
        self.assertEqual(rows(kind="maze", program=program), rows(program, "maze"))
        self.assertEqual(list(all_stretches(kind="maze", program=program)), list(all_stretches(program, "maze")))
        stretch = Stretch(begin=0, end=1, kind="maze", path=(), program=program)
        self.assertEqual(stretch, Stretch(program, "maze", (), 0, 1))
        self.assertEqual(stretch.of(program=program), stretch)

    def test_runs_by_name_in_another_order(self):
        program = Program([PAIR])
        run = Run(events=[(0, 0), (1, 0), (1, 1)], threads=["put", "put"], program=program)
        stretch = Stretch(program, "put", (), 0, 2)
        self.assertEqual(run, Run(program, ["put", "put"], [(0, 0), (1, 0), (1, 1)]))
        self.assertEqual([run.place(thread=1), run.step(position=2)], [1, ("write", "x")])
        self.assertEqual(run.then(event=(0, 1)), run.then((0, 1)))
        self.assertEqual(list(all_runs(most=2, threads=["put"], program=program)),
                         list(all_runs(program, ["put"], most=2)))
        self.assertEqual(played(start={"x": 2}, rule=len, run=run), played(run, len, start={"x": 2}))
        self.assertEqual(conflicts(other=("read", "x"), one=("write", "x")), True)
        self.assertEqual(depends(second=2, first=0, run=run), True)
        self.assertEqual(chain(second=2, first=0, run=run), chain(run, 0, 2))
        self.assertEqual(hanging(positions=[0], run=run), hanging(run, [0]))
        self.assertEqual(passes(stretch=stretch, run=run), passes(run, stretch))
        self.assertEqual(ring(passing=(0, [0]), run=run), None)
        self.assertEqual(is_ring(value=[], passing=(0, [0]), run=run), False)
        self.assertEqual(exchanged(position=0, run=run), exchanged(run, 0))
        self.assertEqual(gathered(passing=(0, [0]), run=run), gathered(run, (0, [0])))
        self.assertEqual(exchanges(passing=(0, [0]), run=run), exchanges(run, (0, [0])))
        self.assertEqual(is_gathering(value=[], passing=(0, [0]), run=run), True)

    def test_stretches_by_name_in_another_order(self):
        program = Program([PAIR])
        whole, last = Stretch(program, "put", (), 0, 2), Stretch(program, "put", (), 1, 2)
        self.assertEqual(moves(state=(-1, (), ()), stretch=whole), moves(whole, (-1, (), ())))
        self.assertEqual([is_unbroken(stretch=whole), is_unbroken(stretch=last)], [False, True])
        self.assertEqual(is_table(value=table(stretch=last), stretch=last), True)
        self.assertEqual([most_others(program=program), fewest_others(stretch=whole)], [2, 1])
        self.assertEqual(breaking_run(stretch=whole), breaking_run(whole))
        self.assertEqual(bad_pairs(kind="put", program=program), [(0, 1, False)])
        self.assertEqual(holds(pair=(0, 1, False), stretch=whole), True)
        self.assertEqual(list(unbroken_stretches(kind="put", program=program)), largest_unbroken(program, "put"))
        self.assertEqual(largest_unbroken(kind="put", program=program), largest_unbroken(program, "put"))

    def test_papers_units_and_locks_by_name_in_another_order(self):
        program = Program([LOOP, PAIR])
        whole = Stretch(program, "put", (), 0, 2)
        run = Run(program, ["put", "put"], [(0, 0), (1, 0), (0, 1)])
        self.assertEqual(covers(variable="x", program=program), [])
        self.assertEqual(motion(number=0, kind="loop", program=program), "later")
        self.assertEqual(next_in_pass(number=0, stretch=whole), [1])
        paper = LatePaper(late=[1], stretch=whole)
        self.assertEqual(paper.cut(inner=whole), paper)
        self.assertIsNone(LatePaper.least(stretch=whole))
        self.assertEqual(units(stretches=[whole], run=run), [[0, 2], [1]])
        self.assertEqual(serial_order(stretches=[whole], run=run), [1, 0, 2])
        self.assertEqual(serial_run(stretches=[whole], run=run), serial_run(run, [whole]))
        self.assertIsNone(pass_ring(stretches=[whole], run=run))
        self.assertIs(is_serial_order(value=[1, 0, 2], stretches=[whole], run=run), True)
        self.assertIs(is_pass_ring(value=[], stretches=[whole], run=run), False)
        self.assertEqual(len(first_ring(most=4, stretches=[whole], threads=["put", "put"], program=program)), 4)
        self.assertIs(together(stretches=[whole], program=program), False)
        self.assertEqual([stuck_threads(run=run), sticking_run(program=program)], [[], None])
        self.assertIs(is_calm_table(value=calm_table(program=program), program=program), True)
        self.assertEqual(without_locks(locks=["m"], program=program).locks, [])
        self.assertEqual(breaks(stretches=[whole], locks=[], program=program), [whole])
        self.assertEqual(list(removals(stretches=[whole], program=program)), [((), [whole]), (("m",), [whole])])
        self.assertEqual(largest_removals(stretches=[], program=program), [("m",)])

    def test_guards_edits_and_texts_by_name_in_another_order(self):
        program = Program([PAIR])
        whole = Stretch(program, "put", (), 0, 2)
        self.assertIs(is_balanced(stretch=whole), True)
        self.assertEqual(guarded(lock="m", guards=[whole], program=program), guarded(program, [whole], lock="m"))
        self.assertEqual(carried(lock="m", stretch=whole, guards=[], program=program), whole)
        self.assertIsNone(fault(lock="m", wished=[whole], guards=[whole], program=program))
        self.assertEqual(cost(guard_cost=3, step_cost=2, guards=[whole]), 7)
        self.assertEqual(list(tried_guards(guard_cost=1, step_cost=0, lock="m", choices=[whole], wished=[whole],
                                           program=program)), [(0, (), ("broken", 0)), (1, (0,), None)])
        self.assertEqual(cheapest(guard_cost=1, lock="m", choices=[whole], wished=[whole], program=program),
                         (3, [whole]))
        desk = Desk(program=program)
        desk.apply(edit=("silence", "put", 0))
        self.assertEqual([desk.answer(stretch=whole), desk.known(stretch=whole)], [True, True])
        self.assertEqual(tried(stretches=[whole], edits=[("undo",)], desk=desk), [False])
        with Trial(desk=desk) as held:
            self.assertIs(held, desk)
        self.assertEqual(Console(program=program)(line="stuck"), ["calm"])
        self.assertEqual(read_program(text=program_text(program=program)), program)
        self.assertEqual(read_stretch(text=stretch_text(stretch=whole), program=program), whole)
        run = Run(program, ["put"], [(0, 0)])
        self.assertEqual(read_run(text=run_text(run=run), program=program), run)
        self.assertEqual(steps_table(kind="put", program=program)[0], " 0 read  x        fixed   -")

    def test_parameters_by_name_only(self):
        program = Program([PAIR])
        whole = Stretch(program, "put", (), 0, 2)
        for call in (lambda: guarded(program, [], "m"), lambda: carried(program, [], whole, "m"),
                     lambda: fault(program, [], [], "m"), lambda: cost([], 1), lambda: cheapest(program, [], [], "m"),
                     lambda: list(tried_guards(program, [], [], "m")), lambda: first_ring(program, ["put"], [], 3)):
            self.assertRaises(TypeError, call)

    def test_calls_that_raise_change_nothing(self):
        program = Program([LOOP, PAIR])
        whole = Stretch(program, "put", (), 0, 2)
        paper = LatePaper(whole, [1])
        given = [whole, whole]
        for call in (lambda: paper.cut(Stretch(program, "loop", (), 0, 1)), lambda: LatePaper(whole, [1, 7]),
                     lambda: units(Run(program, ["put"]), given), lambda: together(program, given),
                     lambda: first_ring(program, ["put"], given, most=9), lambda: breaks(program, ["z"], given),
                     lambda: without_locks(program, ["m", "x"]), lambda: covers(program, "m")):
            self.assertRaises(ValueError, call)
        self.assertEqual([paper, given], [LatePaper(whole, [1]), [whole, whole]])
        self.assertEqual(program, Program([LOOP, PAIR]))

    def test_equal_calls_about_a_stretch_have_equal_results(self):
        program = Program([LOOP, PAIR])
        last = Stretch(program, "put", (), 1, 2)
        for call in (lambda: moves(last, (-1, (), ()))[0], lambda: table(last), lambda: bad_pairs(program, "put"),
                     lambda: list(unbroken_stretches(program, "loop")), lambda: largest_unbroken(program, "loop"),
                     lambda: breaking_run(Stretch(program, "put", (), 0, 2)).events):
            first, second = call(), call()
            self.assertEqual(first, second)
            self.assertIsNot(first, second)
            first.clear()
            self.assertEqual(call(), second)

    def test_equal_calls_about_a_run_have_equal_results(self):
        program = Program([PAIR])
        run = Run(program, ["put", "put"], [(0, 0), (1, 0), (0, 1)])
        stretch = Stretch(program, "put", (), 0, 2)
        for call in (lambda: run.threads, lambda: run.events, lambda: run.holders, run.next_events,
                     lambda: played(run, len)[0], lambda: played(run, len)[1], lambda: chain(run, 0, 2),
                     lambda: hanging(run, [0]), lambda: passes(run, stretch), lambda: exchanges(run, (0, [0, 2]))):
            first, second = call(), call()
            self.assertEqual(first, second)
            self.assertIsNot(first, second)
            first.clear()
            self.assertEqual(call(), second)

    def test_equal_calls_have_equal_results(self):
        program = Program([LOOP, MAZE])
        for call in (lambda: follows(program, "maze", 0), lambda: held(program, "maze", 2),
                     lambda: list(walks(program, "maze")), lambda: rows(program, "maze"),
                     lambda: list(all_stretches(program, "maze")), lambda: program.steps("maze"),
                     lambda: program.kinds, lambda: program.variables, lambda: program.locks):
            first, second = call(), call()
            self.assertEqual(first, second)
            self.assertIsNot(first, second)

    def test_two_generators_do_not_disturb_each_other(self):
        program = Program([MAZE])
        pairs = list(zip(walks(program, "maze", most=3), walks(program, "maze", most=3)))
        self.assertTrue(all(first == second and first is not second for first, second in pairs))
        expected = list(all_stretches(program, "maze"))
        self.assertEqual([first for first, _ in zip(all_stretches(program, "maze"), all_stretches(program, "maze"))],
                         expected)
