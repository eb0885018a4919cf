"""[26] Motions of steps and [27] late papers, with second answers made from the definitions."""

import functools
import itertools
import unittest

from unbrokenruns.errors import InvalidNumber, OtherStretch, UnknownKind, UnknownName
from unbrokenruns.movers import LatePaper, covers, motion, next_in_pass
from unbrokenruns.programs import Program
from unbrokenruns.stretches import Stretch, all_stretches
from unbrokenruns.tables import is_unbroken
from tests.models import LOOP, MAZE, NESTED, OPEN, catch, odd_values
from tests.slow import coming, flat, holding, in_conflict
from tests.slow_states import goes_on, small_programs

OWN = ("own",)
PAIR = Program([("put", (("read", "x"), ("write", "x")))])
LOCKED = Program([("put", (("take", "m"), ("read", "x"), ("write", "x"), ("give", "m")))])
WHOLE = Stretch(PAIR, "put", (), 0, 2)
SHUT = Stretch(LOCKED, "put", (), 0, 4)


def slow_covers(program, variable):
    return [lock for lock in sorted(program.locks) if all(
        lock in holding(program.row(kind))[number] for kind in program.kinds
        for number, step in enumerate(flat(program.row(kind))) if step[1:] == (variable,))]


def slow_motion(program, kind, number):
    step = flat(program.row(kind))[number]
    if step[0] in ("take", "give"):
        return {"take": "later", "give": "earlier"}[step[0]]
    others = [other for name in program.kinds for other in flat(program.row(name))]
    if step == OWN or slow_covers(program, step[1]) or not any(in_conflict(step, other) for other in others):
        return "free"
    return "fixed"


def slow_nexts(stretch, number):
    row = stretch.program.row(stretch.kind)
    return [step for step in sorted(coming(row)[number]) if goes_on(stretch, number, step)]


@functools.lru_cache(maxsize=None)
def facts(row, kind, stretch_key, program_key):
    """The motions of the steps of a stretch and what may come behind each of them."""
    program = Program(list(program_key))
    stretch = Stretch(program, kind, *stretch_key)
    return ({number: slow_motion(program, kind, number) for number in stretch.steps()},
            {number: slow_nexts(stretch, number) for number in stretch.steps()})


def facts_of(stretch):
    program = stretch.program
    key = tuple((kind, program.row(kind)) for kind in program.kinds)
    return facts(program.row(stretch.kind), stretch.kind, (stretch.path, stretch.begin, stretch.end), key)


def slow_stands(stretch, late):
    motions, nexts = facts_of(stretch)
    return (all(number in late for number, word in motions.items() if word in ("fixed", "earlier"))
            and all(step in late for number in late for step in nexts[number])
            and not any(motions[step] in ("fixed", "later") for number in late for step in nexts[number]))


def subsets(numbers):
    return [list(chosen) for many in range(len(numbers) + 1) for chosen in itertools.combinations(numbers, many)]


def some_programs():
    """Programs with none, one, two and three locks."""
    deep = ("a", (("take", "m"), ("take", "l"), ("write", "x"), ("give", "l"), ("add", "y"), ("give", "m")))
    return [Program([LOOP, MAZE]), Program([OPEN, NESTED]), PAIR, LOCKED, Program([deep, ("b", deep[1][1:5])]),
            Program([deep]), Program([deep, ("b", (("take", "k"), *deep[1][:1], ("read", "y"), *deep[1][5:],
                                                   ("give", "k")))]),
            *small_programs(30, 201, 3, 6, locks=()), *small_programs(30, 202, 2, 8, names=("x",), locks=("m",)),
            *small_programs(30, 203, 2, 9, names=("x", "y")),
            *small_programs(25, 204, 2, 9, names=("x", "y", "z"), locks=("m", "l", "k"))]


def small_stretches(most):
    for program in some_programs():
        for kind in program.kinds:
            for stretch in all_stretches(program, kind):
                if len(stretch) <= most:
                    yield stretch


class CoversTest(unittest.TestCase):
    def test_all_variables(self):
        seen = set()
        for program in some_programs():
            for variable in program.variables:
                found = covers(program, variable)
                self.assertEqual(found, slow_covers(program, variable))
                seen.add(len(found))
        self.assertLessEqual({0, 1, 2}, seen)

    def test_touched_by_one_kind_by_several_and_outside_of_a_section(self):
        inside = ("a", (("take", "m"), ("take", "l"), ("write", "x"), ("give", "l"), ("add", "x"), ("give", "m")))
        self.assertEqual(covers(Program([inside]), "x"), ["m"])
        self.assertEqual(covers(Program([inside, ("b", (OWN,))]), "x"), ["m"])
        other = ("b", (("take", "l"), ("read", "x"), ("give", "l")))
        self.assertEqual(covers(Program([inside, other]), "x"), [])
        both = ("b", (("take", "l"), ("take", "m"), ("read", "x"), ("give", "m"), ("give", "l")))
        self.assertEqual(covers(Program([inside, both]), "x"), ["m"])
        self.assertEqual(covers(Program([both]), "x"), ["l", "m"])
        self.assertEqual(covers(Program([inside, ("b", (("read", "x"),))]), "x"), [])
        deep = ("a", (("take", "m"), ("repeat", (("choose", (("read", "x"),), (OWN,)),)), ("give", "m")))
        self.assertEqual(covers(variable="x", program=Program([deep])), ["m"])

    def test_unknown_name(self):
        for value in [*odd_values(), 0, "m", "z", "put", ["x"], ("x",), b"x", "xx"]:
            error = catch(covers, LOCKED, value)
            self.assertIs(error.__class__, UnknownName)
            self.assertIs(error.name, value)

    def test_results_are_new(self):
        covers(LOCKED, "x").clear()
        self.assertEqual(covers(LOCKED, "x"), ["m"])


class MotionTest(unittest.TestCase):
    def test_all_steps(self):
        seen = {}
        for program in some_programs():
            for kind in program.kinds:
                for number, step in enumerate(program.steps(kind)):
                    found = motion(program, kind, number)
                    self.assertEqual(found, slow_motion(program, kind, number))
                    seen.setdefault(step[0], set()).add(found)
        self.assertEqual(seen, {"take": {"later"}, "give": {"earlier"}, "own": {"free"}, "read": {"free", "fixed"},
                                "write": {"free", "fixed"}, "add": {"free", "fixed"}})

    def test_examples(self):
        self.assertEqual([motion(LOCKED, "put", number) for number in range(4)], ["later", "free", "free", "earlier"])
        self.assertEqual([motion(PAIR, "put", 0), motion(number=1, kind="put", program=PAIR)], ["fixed", "fixed"])

    def test_steps_that_conflict_with_no_step(self):
        program = Program([("a", (("read", "x"), ("add", "y"))), ("b", (("read", "x"), ("add", "y")))])
        self.assertEqual([motion(program, kind, number) for kind in "ab" for number in (0, 1)], ["free"] * 4)
        program = Program([("a", (("read", "x"),)), ("b", (("add", "x"),))])
        self.assertEqual([motion(program, "a", 0), motion(program, "b", 0)], ["fixed", "fixed"])

    def test_steps_that_conflict_only_with_their_own_kind(self):
        program = Program([("a", (("write", "x"), ("read", "y"))), ("b", (("read", "y"),))])
        self.assertEqual([motion(program, "a", 0), motion(program, "a", 1), motion(program, "b", 0)],
                         ["fixed", "free", "free"])

    def test_errors(self):
        for value in [*odd_values(), 4, -1, 12, "0", (0,), 10 ** 30]:
            error = catch(motion, LOCKED, "put", value)
            self.assertIs(error.__class__, InvalidNumber)
            self.assertIs(error.value, value)
        for value in [*odd_values(), 0, "x", "putt"]:
            for number in (0, -1, None):
                error = catch(motion, LOCKED, value, number)
                self.assertIs(error.__class__, UnknownKind)
                self.assertIs(error.kind, value)


class NextInPassTest(unittest.TestCase):
    def test_every_step_of_every_stretch(self):
        for program in some_programs():
            for kind in program.kinds:
                for stretch in all_stretches(program, kind):
                    for number in stretch.steps():
                        self.assertEqual(next_in_pass(stretch, number), slow_nexts(stretch, number))

    def test_around(self):
        row = (("repeat", (("choose", (OWN, OWN), (OWN,)), OWN)), OWN)
        program = Program([("a", row)])
        whole = Stretch(program, "a", (), 0, 2)
        self.assertEqual([next_in_pass(whole, number) for number in range(5)], [[1], [3], [3], [0, 2, 4], []])
        inner = Stretch(program, "a", ((0, 0),), 0, 2)
        self.assertEqual([next_in_pass(inner, number) for number in range(4)], [[1], [3], [3], []])
        deep = Stretch(program, "a", ((0, 0), (0, 0)), 0, 2)
        self.assertEqual([next_in_pass(stretch=deep, number=0), next_in_pass(number=1, stretch=deep)], [[1], []])
        alone = Program([("a", (("repeat", (OWN,)),))])
        self.assertEqual(next_in_pass(Stretch(alone, "a", (), 0, 1), 0), [0])
        self.assertEqual(next_in_pass(Stretch(alone, "a", ((0, 0),), 0, 1), 0), [])

    def test_errors(self):
        part = Stretch(LOCKED, "put", (), 1, 3)
        for value in [*odd_values(), 0, 3, -1, "1", 10 ** 30]:
            error = catch(next_in_pass, part, value)
            self.assertIs(error.__class__, InvalidNumber)
            self.assertIs(error.value, value)
        self.assertEqual(next_in_pass(part, 1), [2])


class PaperTest(unittest.TestCase):
    def test_late_steps(self):
        for late in ([], [3, 0], [2, 2, 1, 2], [0, 1, 2, 3], [3, 2, 1, 0, 0]):
            copy = list(late)
            paper = LatePaper(late=late, stretch=SHUT)
            self.assertEqual(late, copy)
            self.assertEqual(paper.late, tuple(sorted(set(copy))))
            self.assertIs(paper.stretch, SHUT)
            late.append(1)
            late.reverse()
            self.assertEqual(paper.late, tuple(sorted(set(copy))))
            self.assertEqual([len(paper), list(paper), [step for step in paper]],
                             [len(set(copy)), sorted(set(copy)), sorted(set(copy))])

    def test_first_wrong_item(self):
        part = Stretch(LOCKED, "put", (), 1, 3)
        for value in [*odd_values(), 0, 3, -1, 4, "1"]:
            for late in ([value], [1, value, 7], [2, 1, value, True]):
                error = catch(LatePaper, part, late)
                self.assertIs(error.__class__, InvalidNumber)
                self.assertIs(error.value, value)

    def test_in(self):
        paper = LatePaper(SHUT, [1, 0, 3])
        self.assertEqual([number in paper for number in range(-1, 5)], [False, True, True, False, True, False])
        for value in [*odd_values(), "1", (1,), [1]]:
            self.assertIs(value in paper, False)

    def test_equal(self):
        paper = LatePaper(SHUT, [3, 1])
        again = Program([("put", LOCKED.row("put"))])
        self.assertTrue(paper == LatePaper(Stretch(again, "put", (), 0, 4), [1, 3, 1]))
        self.assertFalse(paper != LatePaper(Stretch(again, "put", (), 0, 4), [1, 3, 1]))
        more = Program([("put", LOCKED.row("put")), ("more", (OWN,))])
        for other in (LatePaper(SHUT, [3]), LatePaper(Stretch(more, "put", (), 0, 4), [1, 3]),
                      LatePaper(Stretch(LOCKED, "put", (), 1, 4), [1, 3]), SHUT, (1, 3), [1, 3], *odd_values()):
            self.assertFalse(paper == other)
            self.assertTrue(paper != other)

    def test_never_changes(self):
        paper = LatePaper(SHUT, [3])
        for name in ("stands",):
            with self.assertRaises(AttributeError):
                setattr(paper, name, True)


class StandsTest(unittest.TestCase):
    def test_all_sets_of_steps(self):
        seen = {True: 0, False: 0}
        for stretch in small_stretches(6):
            standing = []
            for late in subsets(stretch.steps()):
                paper = LatePaper(stretch, late)
                self.assertIs(paper.stands, slow_stands(stretch, late))
                seen[paper.stands] += 1
                if paper.stands:
                    standing.append(set(late))
            least = LatePaper.least(stretch)
            self.assertIs(least is None, not standing)
            if standing:
                self.assertIs(least.__class__, LatePaper)
                self.assertIs(least.stretch, stretch)
                self.assertEqual(set(least.late), set.intersection(*standing))
                self.assertIs(least.stands, True)
                self.assertTrue(is_unbroken(stretch))
        self.assertGreater(min(seen.values()), 500)

    def test_examples(self):
        self.assertEqual([LatePaper.least(SHUT).late, LatePaper.least(WHOLE)], [(3,), None])
        self.assertEqual(LatePaper.least(stretch=Stretch(PAIR, "put", (), 0, 1)).late, (0,))
        self.assertEqual([LatePaper(SHUT, late).stands for late in ([], [3], [2, 3], [1, 2, 3], [0, 1, 2, 3], [1, 3])],
                         [False, True, True, True, True, False])
        spin = Program([("spin", (("repeat", (OWN, ("add", "x"))),)), ("look", (("read", "x"),))])
        self.assertIsNone(LatePaper.least(Stretch(spin, "spin", (), 0, 1)))
        self.assertEqual(LatePaper.least(Stretch(spin, "spin", ((0, 0),), 0, 2)).late, (1,))

    def test_an_empty_paper(self):
        calm = Program([("a", (OWN, ("read", "x")))])
        self.assertEqual(LatePaper.least(Stretch(calm, "a", (), 0, 2)).late, ())
        self.assertIs(LatePaper(Stretch(calm, "a", (), 0, 2), []).stands, True)


class TogetherTest(unittest.TestCase):
    def test_union_and_intersection(self):
        for one, other in itertools.product(subsets(SHUT.steps()), repeat=2):
            left, right = LatePaper(SHUT, one), LatePaper(SHUT, other)
            both, common = left | right, left & right
            self.assertEqual([set(both.late), set(common.late)], [set(one) | set(other), set(one) & set(other)])
            self.assertEqual([both.stretch, common.stretch], [SHUT, SHUT])
            self.assertEqual([left, right], [LatePaper(SHUT, one), LatePaper(SHUT, other)])

    def test_results_of_standing_papers_stand(self):
        seen = 0
        for stretch in small_stretches(5):
            standing = [LatePaper(stretch, late) for late in subsets(stretch.steps()) if slow_stands(stretch, late)]
            inners = [inner for inner in all_stretches(stretch.program, stretch.kind) if inner.within(stretch)]
            for one in standing[:6]:
                for other in standing:
                    seen += 1
                    self.assertTrue((one | other).stands and (one & other).stands)
                for inner in inners:
                    self.assertIs(one.cut(inner).stands, True)
        self.assertGreater(seen, 300)

    def test_other_stretch(self):
        more = Program([("put", LOCKED.row("put")), ("more", (OWN, OWN, OWN, OWN))])
        paper = LatePaper(SHUT, [3])
        for stretch in (Stretch(more, "put", (), 0, 4), Stretch(LOCKED, "put", (), 1, 4),
                        Stretch(more, "more", (), 0, 4)):
            other = LatePaper(stretch, [3])
            for call in (lambda: paper | other, lambda: paper & other, lambda: other | paper, lambda: other & paper):
                self.assertIs(catch(call).__class__, OtherStretch)
        again = LatePaper(Stretch(Program([("put", LOCKED.row("put"))]), "put", (), 0, 4), [2])
        self.assertEqual([(paper | again).late, (paper & again).late], [(2, 3), ()])

    def test_with_any_value(self):
        paper = LatePaper(SHUT, [3])
        for value in (3, (3,), [3], None, SHUT):
            self.assertIs(catch(lambda: paper | value).__class__, TypeError)
            self.assertIs(catch(lambda: paper & value).__class__, TypeError)

    def test_cut(self):
        for stretch in small_stretches(6):
            late = stretch.steps()[::2]
            paper = LatePaper(stretch, late)
            for inner in all_stretches(stretch.program, stretch.kind):
                if inner.within(stretch):
                    found = paper.cut(inner=inner)
                    self.assertIs(found.stretch, inner)
                    self.assertEqual(list(found.late), [number for number in late if number in inner.steps()])
                else:
                    self.assertIs(catch(paper.cut, inner).__class__, OtherStretch)
            self.assertEqual(paper, LatePaper(stretch, late))

    def test_cut_to_a_stretch_of_another_program(self):
        more = Program([("put", LOCKED.row("put")), ("more", (OWN,))])
        paper = LatePaper(SHUT, [3])
        for inner in (Stretch(more, "put", (), 0, 4), Stretch(more, "put", (), 1, 2), Stretch(more, "more", (), 0, 1)):
            self.assertIs(catch(paper.cut, inner).__class__, OtherStretch)
        again = Program([("put", LOCKED.row("put"))])
        self.assertEqual(paper.cut(Stretch(again, "put", (), 2, 4)).late, (3,))
