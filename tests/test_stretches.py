"""[17] Stretches, with the definition of [7]."""

import unittest

from unbrokenruns.errors import InvalidStretch, UnknownKind
from unbrokenruns.programs import Program
from unbrokenruns.stretches import Stretch, all_stretches, rows
from tests.models import LOOP, MAZE, NESTED, OPEN, catch, odd_values, random_rows, row_tree

OWN = ("own",)
ROWS = [LOOP[1], MAZE[1], NESTED[1], OPEN[1], (OWN,)] + random_rows(60, 4, most=8)


def one(row, name="a"):
    return Program([(name, row)])


def key(stretch):
    return (stretch.kind, stretch.path, stretch.begin, stretch.end)


def model(row):
    """A dict from each (path, begin, end) of a row to its steps and to all such tuples that lie within it.

    What lies within is found by going down into the items, not by looking at paths.
    """
    tree = {path: (items, bounds) for path, items, bounds in row_tree(row)}

    def spans(path, begin, end):
        return [(path, low, high) for low in range(begin, end) for high in range(low + 1, end + 1)]

    def inside(path, begin, end):
        found = spans(path, begin, end)
        for index in range(begin, end):
            item = tree[path][0][index]
            if item[0] in ("choose", "repeat"):
                for at in range(len(item) - 1):
                    below = path + ((index, at),)
                    found.extend(inside(below, 0, len(tree[below][0])))
        return found

    found = {}
    for path, (items, bounds) in tree.items():
        for span in spans(path, 0, len(items)):
            steps = list(range(bounds[span[1]][0], bounds[span[2] - 1][1]))
            found[span] = (steps, set(inside(*span)))
    return found


class TellingTest(unittest.TestCase):
    def test_arguments_are_told(self):
        program = Program([LOOP, MAZE])
        stretch = Stretch(program, "maze", ((2, 0), (0, 1)), 0, 2)
        self.assertIs(stretch.program, program)
        self.assertEqual(key(stretch), ("maze", ((2, 0), (0, 1)), 0, 2))
        self.assertEqual([stretch.steps(), len(stretch)], [[6, 7], 2])
        named = Stretch(end=2, begin=0, path=((2, 0), (0, 1)), kind="maze", program=program)
        self.assertEqual(key(named), key(stretch))
        self.assertEqual(set(vars(stretch)) & {"program", "kind", "path", "begin", "end"},
                         {"program", "kind", "path", "begin", "end"})

    def test_steps_of_all_stretches(self):
        for row in ROWS:
            program = one(row)
            for (path, begin, end), (steps, _) in model(row).items():
                stretch = Stretch(program, "a", path, begin, end)
                with self.subTest(row=row, stretch=key(stretch)):
                    self.assertEqual(stretch.steps(), steps)
                    self.assertEqual(len(stretch), len(steps))
                    self.assertEqual([number for number in range(-2, 14) if number in stretch], steps)

    def test_in_with_any_values(self):
        stretch = Stretch(one((OWN,) * 3), "a", (), 0, 2)
        self.assertEqual([0 in stretch, 1 in stretch, 2 in stretch, -1 in stretch], [True, True, False, False])
        for value in [*odd_values(), -1, 2, 10 ** 50, "0", [0], (0,), (0, 1), OWN, stretch, "a"]:
            with self.subTest(value=value):
                self.assertIs(value in stretch, False)

    def test_steps_are_new(self):
        stretch = Stretch(Program([LOOP]), "loop", (), 0, 1)
        steps = stretch.steps()
        steps.clear()
        self.assertEqual([stretch.steps(), len(stretch)], [[0, 1, 2], 3])

    def test_equality(self):
        program = Program([("a", (OWN, ("repeat", (OWN, OWN)))), ("b", (OWN, ("repeat", (OWN, OWN))))])
        other = Program([("b", (OWN, ("repeat", (OWN, OWN)), OWN)), ("a", (OWN, ("repeat", (("read", "x"),) * 2)))])
        for first in all_stretches(program, "a"):
            for kind in ("a", "b"):
                for where in (program, other):
                    for second in all_stretches(where, kind):
                        same = key(first) == key(second)
                        self.assertIs(first == second, same)
                        self.assertIs(first != second, not same)
                        self.assertIs(first < second, key(first) < key(second))
                        self.assertIs(first > second, key(first) > key(second))
            for value in [*odd_values(), 0, key(first), list(key(first)), "a", program, first.steps(), first.path]:
                self.assertIs(first == value, False)
                self.assertIs(first != value, True)

    def test_order(self):
        program = Program([MAZE, LOOP, NESTED])
        stretches = [stretch for kind in program.kinds for stretch in all_stretches(program, kind)]
        self.assertEqual([key(stretch) for stretch in sorted(stretches)], sorted(key(x) for x in stretches))

    def test_of(self):
        program = Program([LOOP])
        stretch = Stretch(program, "loop", ((0, 0),), 1, 3)
        longer = Program([("other", (OWN,)), ("loop", (("choose", (OWN, OWN, ("add", "y")), (OWN,)),))])
        self.assertIs(stretch.of(longer).program, longer)
        self.assertEqual([stretch.of(longer) == stretch, stretch.of(longer).steps()], [True, [1, 2]])
        self.assertEqual(stretch.of(program=longer), stretch)
        self.assertIs(stretch.program, program)
        without_kind = catch(stretch.of, Program([OPEN]))
        self.assertEqual((without_kind.__class__, without_kind.kind), (UnknownKind, "loop"))
        for row in [(OWN,), (OWN, OWN), (("repeat", (OWN, OWN)),), (OWN, ("repeat", (OWN, OWN, OWN)))]:
            error = catch(stretch.of, one(row, "loop"))
            self.assertIs(error.__class__, InvalidStretch)
            self.assertEqual((error.path, error.begin, error.end), (((0, 0),), 1, 3))


class ListsTest(unittest.TestCase):
    def test_rows(self):
        self.assertEqual(rows(Program([NESTED]), "nested"),
                         [(), ((1, 0),), ((1, 0), (0, 0)), ((1, 0), (0, 1)), ((1, 1),), ((2, 0),)])
        self.assertEqual(rows(kind="maze", program=Program([LOOP, MAZE])), [
            (), ((0, 0),), ((1, 0),), ((1, 0), (0, 0)), ((1, 1),), ((2, 0),),
            ((2, 0), (0, 0)), ((2, 0), (0, 1)), ((2, 0), (1, 0)), ((2, 0), (1, 1))])
        for row in ROWS:
            self.assertEqual(rows(one(row), "a"), sorted(path for path, _, _ in row_tree(row)))

    def test_rows_are_new(self):
        program = Program([LOOP])
        rows(program, "loop").clear()
        self.assertEqual(rows(program, "loop"), [(), ((0, 0),)])

    def test_all_stretches(self):
        for row in ROWS:
            program = one(row)
            found = list(all_stretches(program, "a"))
            with self.subTest(row=row):
                self.assertEqual([key(stretch) for stretch in found], sorted(("a", *span) for span in model(row)))
                self.assertTrue(all(stretch.program is program for stretch in found))
                self.assertTrue(all(stretch.__class__ is Stretch for stretch in found))

    def test_generator(self):
        program = Program([LOOP])
        self.assertEqual(all_stretches(program, "loop").__class__.__name__, "generator")
        self.assertEqual(len(list(all_stretches(kind="loop", program=program))), 9)
        late = all_stretches(program, "none")
        self.assertIs(catch(next, late).__class__, UnknownKind)

    def test_unknown_kind(self):
        program = Program([LOOP])
        for value in [*odd_values(), 0, "loops", "m", ["loop"], ("loop",)]:
            for error in (catch(rows, program, value), catch(next, all_stretches(program, value)),
                          catch(Stretch, program, value, (), 0, 1), catch(Stretch, program, value, None, 5, True)):
                with self.subTest(value=value):
                    self.assertIs(error.__class__, UnknownKind)
                    self.assertIs(error.kind, value)


class WithinTest(unittest.TestCase):
    def check_all_pairs(self, row, others):
        """Compares the stretches of a kind with the stretches that have the same kinds, paths and so on."""
        spans = model(row)
        first = {span: Stretch(one(row), "a", *span) for span in spans}
        second = {span: Stretch(others, "a", *span) for span in spans}
        for inner in spans:
            for outer in spans:
                self.assertIs(first[inner].within(second[outer]), inner in spans[outer][1])
                common = [span for span in spans if span in spans[inner][1] and span in spans[outer][1]]
                greatest = [span for span in common if set(common) <= spans[span][1]]
                expected = second[greatest[0]] if greatest else None
                self.assertEqual(len(greatest), 1 if common else 0)
                found = first[inner] & second[outer]
                self.assertEqual(found, expected)
                self.assertEqual(first[inner].common(second[outer]), expected)
                if expected is not None:
                    self.assertEqual(found.steps(), sorted(set(first[inner].steps()) & set(first[outer].steps())))

    def test_all_pairs(self):
        for row in ROWS:
            with self.subTest(row=row):
                self.check_all_pairs(row, Program([("a", row), ("b", (OWN,))]))

    def test_two_kinds(self):
        row = NESTED[1][:2] + NESTED[1][3:]
        program = Program([("a", row), ("b", row), ("c", (OWN,))])
        for first in all_stretches(program, "a"):
            for kind in ("b", "c"):
                for second in all_stretches(program, kind):
                    for inner, outer in ((first, second), (second, first)):
                        self.assertIs(inner.within(outer), False)
                        self.assertIsNone(inner.common(outer))
                        self.assertIsNone(inner & outer)

    def test_examples(self):
        program = Program([NESTED])
        whole = Stretch(program, "nested", (), 0, 4)
        deep = Stretch(program, "nested", ((1, 0), (0, 0)), 1, 3)
        beside = Stretch(program, "nested", ((1, 0), (0, 1)), 0, 1)
        self.assertEqual([deep.within(whole), whole.within(deep), deep.within(deep), whole.within(whole)],
                         [True, False, True, True])
        self.assertEqual([deep & whole, whole & deep, deep & beside], [deep, deep, None])
        self.assertIs(Stretch(program, "nested", (), 2, 4).within(Stretch(program, "nested", (), 1, 3)), False)
        self.assertEqual(Stretch(program, "nested", (), 1, 4) & Stretch(program, "nested", (), 0, 3),
                         Stretch(program, "nested", (), 1, 3))
        self.assertIsNone(Stretch(program, "nested", (), 0, 2) & Stretch(program, "nested", (), 2, 4))
        self.assertIs(deep.within(other=whole), True)
        self.assertEqual(deep.common(other=whole), deep)

    def test_paths_that_only_begin_alike(self):
        row = (("choose", (("choose", (OWN,), (OWN,)),), (("choose", (OWN,), (OWN,)),)), OWN)
        program = one(row)
        self.assertIs(Stretch(program, "a", ((0, 1), (0, 0)), 0, 1).within(Stretch(program, "a", ((0, 0),), 0, 1)),
                      False)
        self.assertIs(Stretch(program, "a", ((0, 1), (0, 0)), 0, 1).within(Stretch(program, "a", ((0, 1),), 0, 1)),
                      True)
        self.assertIs(Stretch(program, "a", ((0, 1),), 0, 1).within(Stretch(program, "a", (), 1, 2)), False)

    def test_nothing_changes(self):
        program = Program([LOOP])
        first, second = Stretch(program, "loop", (), 0, 1), Stretch(program, "loop", (), 0, 2)
        before = (key(first), key(second), first.steps(), second.steps())
        first & second
        first.common(second)
        first.within(second)
        catch(Stretch, program, "loop", (), 0, 3)
        self.assertEqual((key(first), key(second), first.steps(), second.steps()), before)
        self.assertEqual(program, Program([LOOP]))

    def test_other_operands(self):
        stretch = Stretch(Program([LOOP]), "loop", (), 0, 1)
        for value in (None, 1, "a", [stretch], key(stretch)):
            self.assertIsInstance(catch(lambda x: stretch & x, value), TypeError)
            self.assertIsInstance(catch(lambda x: stretch < x, value), TypeError)


class InvalidTest(unittest.TestCase):
    def check(self, program, kind, path, begin, end):
        error = catch(Stretch, program, kind, path, begin, end)
        with self.subTest(kind=kind, path=path, begin=begin, end=end):
            self.assertIs(error.__class__, InvalidStretch)
            self.assertEqual([error.path is path, error.begin is begin, error.end is end], [True] * 3)

    def test_paths(self):
        program = Program([LOOP, MAZE])
        for path in [*odd_values(), 0, 1, "loop", [], [(0, 0)], ([0, 0],), (0, 0), (0,), ((0,),), ((0, 0, 0),),
                     ((0, 1),), ((1, 0),), ((2, 0),), ((-1, 0),), ((-2, 0),), ((0, -1),), ((0, 0), (0, 0)),
                     ((0, 0), (1, 0)), ((False, 0),), ((0, False),), ((0, True),), ((None, 0),), ((0, None),),
                     (("0", 0),), ((0, "x"),), (((0,), 0),), ((0, 0), ()), ((0, 0), None), ((10 ** 50, 0),),
                     ((0, 10 ** 50),), (((0, 0),),), "00", ("00",)]:
            if path != ():
                self.check(program, "loop", path, 0, 1)
        for path in [((0, 0), (0, 0)), ((0, 1),), ((1, 2),), ((1, 1), (0, 0)), ((2, 0), (0, 2)), ((2, 0), (2, 0)),
                     ((2, 0), (0, 0), (0, 0)), ((3, 0),), ((2, 0), (0, -1)), ((2, 0), (-1, 0)), ((True, 0),)]:
            self.check(program, "maze", path, 0, 1)
        for path in rows(program, "maze"):
            self.assertIsNone(catch(Stretch, program, "maze", path, 0, 1))

    def test_begin_and_end(self):
        program = Program([LOOP])
        for path, many in (((), 2), (((0, 0),), 3)):
            for begin in range(-3, 5):
                for end in range(-3, 5):
                    if 0 <= begin < end <= many:
                        self.assertEqual(key(Stretch(program, "loop", path, begin, end)), ("loop", path, begin, end))
                    else:
                        self.check(program, "loop", path, begin, end)
        for value in [*odd_values(), "0", [0], 10 ** 50, -10 ** 50]:
            self.check(program, "loop", (), value, 1)
            self.check(program, "loop", (), value, 2)
            self.check(program, "loop", (), 0, value)
            self.check(program, "loop", (), value, value)

    def test_all_wrong_at_once(self):
        self.check(Program([LOOP]), "loop", [(0, 0)], "a", None)
        self.check(Program([LOOP]), "loop", {}, [], {})
