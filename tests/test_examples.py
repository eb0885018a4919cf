"""The examples of the document that use the modules that exist."""

import unittest

from unbrokenruns.errors import InvalidProgram
from unbrokenruns.places import follows, held, walks
from unbrokenruns.programs import Program
from unbrokenruns.stretches import Stretch, all_stretches, rows

LOOP = ("loop", (("repeat", (("take", "m"), ("read", "x"), ("give", "m"))), ("own",)))


class ExamplesTest(unittest.TestCase):
    def test_programs(self):
        self.assertEqual(Program([LOOP]).steps("loop"), [("take", "m"), ("read", "x"), ("give", "m"), ("own",)])
        with self.assertRaises(InvalidProgram) as caught:
            Program([("bad", (("take", "m"), ("give", "n")))])
        self.assertEqual((caught.exception.index, caught.exception.why), (0, "lock"))

    def test_places(self):
        program = Program([LOOP])
        self.assertEqual([follows(program, "loop", 2), held(program, "loop", 1), list(walks(program, "loop", most=1))],
                         [[(0, True), (3, False)], ["m"], [[], [0], [3]]])

    def test_stretches(self):
        program = Program([LOOP])
        stretch = Stretch(program, "loop", ((0, 0),), 1, 3)
        self.assertEqual([stretch.steps(), len(stretch), 2 in stretch,
                          stretch.within(Stretch(program, "loop", (), 0, 1))], [[1, 2], 2, True, True])
        self.assertEqual([rows(program, "loop"), len(list(all_stretches(program, "loop")))], [[(), ((0, 0),)], 9])
