"""[31] Guards of a new lock, with second answers made from the definitions."""

import itertools
import random
import unittest

from unbrokenruns.errors import InvalidProgram, NameTaken, NotBalanced, OverlappingStretches, TooMany
from unbrokenruns.guards import carried, cheapest, cost, fault, guarded, is_balanced, tried_guards
from unbrokenruns.programs import Program
from unbrokenruns.search import most_others
from unbrokenruns.stretches import Stretch, all_stretches, rows
from unbrokenruns.tables import is_unbroken
from tests.models import LOOP, MAZE, NESTED, OPEN, catch, odd_values
from tests.slow_states import crowd_breaks, small_programs
from tests.test_stuck import slow_calm_table

OWN = ("own",)
PAIR = Program([("put", (("read", "x"), ("write", "x")))])
WHOLE = Stretch(PAIR, "put", (), 0, 2)
FIRST = Stretch(PAIR, "put", (), 0, 1)
LOCKED = Program([("put", (("take", "m"), ("read", "x"), ("write", "x"), ("give", "m")))])
MIXED = Program([("a", (("take", "m"), ("read", "x"), ("give", "m"),
                        ("choose", (("read", "x"), OWN), (("repeat", (("write", "x"), OWN)),)), ("add", "x"))),
                 ("b", (("read", "x"), ("write", "x")))])


def tree(row, path=()):
    """The nodes of a row and, by their paths and indices, those of all rows within it."""
    found = {}
    for index, item in enumerate(row):
        found[path, index] = node = {"item": item, "before": 0, "behind": 0, "path": path, "index": index}
        inners = item[1:] if item[0] in ("choose", "repeat") else ()
        node["inners"] = len(inners)
        for at, inner in enumerate(inners):
            found.update(tree(inner, (*path, (index, at))))
    return found


class Layout:
    """The guarded row of a kind, and where each old item has come to."""

    def __init__(self, program, kind, guards, lock):
        self.nodes = tree(program.row(kind))
        self.lock = lock
        self.steps = 0
        self.places = {}
        for guard in guards:
            if guard.kind == kind:
                self.nodes[guard.path, guard.begin]["before"] += 1
                self.nodes[guard.path, guard.end - 1]["behind"] += 1
        self.row = self.build((), ())

    def build(self, path, new_path):
        found = []
        index = 0
        while (path, index) in self.nodes:
            node = self.nodes[path, index]
            for _ in range(node["before"]):
                found.append(("take", self.lock))
                self.steps += 1
            first, at = self.steps, len(found)
            if node["inners"]:
                found.append((node["item"][0], *[self.build((*path, (index, inner)), (*new_path, (at, inner)))
                                                 for inner in range(node["inners"])]))
            else:
                found.append(node["item"])
                self.steps += 1
            self.places[path, index] = (new_path, at, first, self.steps)
            for _ in range(node["behind"]):
                found.append(("give", self.lock))
                self.steps += 1
            index += 1
        return tuple(found)

    def moved(self, stretch):
        """The path, begin, end and steps of a stretch from its first to its last item."""
        path, begin, first, _ = self.places[stretch.path, stretch.begin]
        _, end, _, behind = self.places[stretch.path, stretch.end - 1]
        return path, begin, end + 1, list(range(first, behind))


def slow_guarded(program, guards, lock):
    return Program([(kind, Layout(program, kind, guards, lock).row) for kind in program.kinds])


def row_of(stretch):
    row = stretch.program.row(stretch.kind)
    for index, at in stretch.path:
        row = row[index][1 + at]
    return row


def slow_balanced(stretch):
    row = row_of(stretch)
    inside = range(stretch.begin, stretch.end)
    for index in inside:
        if row[index][0] == "give" and not any(row[at] == ("take", row[index][1]) for at in inside if at < index
                                               and ("give", row[index][1]) not in row[at:index]):
            return False
        if row[index][0] == "take" and ("give", row[index][1]) not in row[index:stretch.end]:
            return False
    return True


def everything(program):
    return [stretch for kind in program.kinds for stretch in all_stretches(program, kind)]


def apart(stretches):
    return not any(one.kind == other.kind and set(one.steps()) & set(other.steps())
                   for one, other in itertools.combinations(stretches, 2))


def some_programs():
    return [PAIR, LOCKED, MIXED, Program([LOOP, OPEN]), Program([MAZE]), Program([NESTED, LOOP]),
            *small_programs(25, 601, 2, 6), *small_programs(15, 602, 3, 5, locks=("m",)),
            *small_programs(10, 603, 2, 5, locks=())]


def guard_lists(program, rng, many):
    """Lists of balanced stretches without a common step, in any order."""
    stretches = [stretch for stretch in everything(program) if slow_balanced(stretch)]
    found = [[]]
    for _ in range(many):
        chosen = []
        for stretch in rng.sample(stretches, len(stretches)):
            if apart([*chosen, stretch]) and len(chosen) < rng.choice([1, 2, 3, 5]):
                chosen.append(stretch)
        found.append(chosen)
    return found


class BalancedTest(unittest.TestCase):
    def test_every_stretch(self):
        seen = {True: 0, False: 0}
        for program in some_programs():
            for stretch in everything(program):
                self.assertIs(is_balanced(stretch), slow_balanced(stretch))
                seen[slow_balanced(stretch)] += 1
        self.assertGreater(min(seen.values()), 50)

    def test_examples(self):
        row = (("take", "m"), ("take", "n"), ("give", "n"), ("give", "m"), ("take", "m"), ("give", "m"))
        program = Program([("a", row)])
        balanced = [(begin, end) for begin in range(6) for end in range(begin + 1, 7)
                    if is_balanced(Stretch(program, "a", (), begin, end))]
        self.assertEqual(balanced, [(0, 4), (0, 6), (1, 3), (4, 6)])
        within = Program([("a", (("take", "m"), ("choose", (("take", "n"), ("give", "n")), (OWN,)), ("give", "m")))])
        self.assertIs(is_balanced(stretch=Stretch(within, "a", (), 1, 2)), True)
        self.assertIs(is_balanced(Stretch(within, "a", ((1, 0),), 0, 1)), False)
        self.assertIs(is_balanced(Stretch(within, "a", (), 0, 2)), False)


class GuardedTest(unittest.TestCase):
    def check(self, program, guards):
        """Whether the guarded program is one; guarded and carried are compared with the second answers."""
        layouts = {kind: Layout(program, kind, guards, "new") for kind in program.kinds}
        kinds = [(kind, layouts[kind].row) for kind in program.kinds]
        expected = catch(Program, kinds)
        copy = list(guards)
        if expected is not None:
            for call in (lambda: guarded(program, guards, lock="new"), lambda: fault(program, guards, [], lock="new"),
                         lambda: carried(program, guards, everything(program)[0], lock="new")):
                error = catch(call)
                self.assertIs(error.__class__, InvalidProgram)
                self.assertEqual((error.index, error.why), (expected.index, expected.why))
            return False
        self.assertEqual(guarded(program, guards, lock="new"), Program(kinds))
        self.assertEqual(guarded(program, guards[::-1], lock="new"), Program(kinds))
        for stretch in everything(program):
            found = carried(program, guards, stretch, lock="new")
            path, begin, end, steps = layouts[stretch.kind].moved(stretch)
            self.assertEqual((found.kind, found.path, found.begin, found.end), (stretch.kind, path, begin, end))
            self.assertEqual(found.steps(), steps)
            self.assertEqual(found.program, Program(kinds))
        self.assertEqual(guards, copy)
        return True

    def test_random_guards(self):
        rng = random.Random(61)
        seen = {True: 0, False: 0}
        for program in some_programs():
            for guards in guard_lists(program, rng, 5):
                seen[self.check(program, guards)] += 1
        self.assertGreater(min(seen.values()), 10)

    def test_every_single_guard(self):
        for program in some_programs()[:20]:
            for stretch in everything(program):
                if slow_balanced(stretch):
                    self.check(program, [stretch])

    def test_without_guards(self):
        for program in some_programs():
            for lock in ("new", "Bad", "", "longnames", 5, None):
                self.assertEqual(guarded(program, [], lock=lock), program)

    def test_examples(self):
        self.assertEqual(guarded(PAIR, [WHOLE], lock="m"), LOCKED)
        self.assertEqual(guarded(lock="m", guards=[Stretch(PAIR, "put", (), 1, 2), FIRST], program=PAIR).row("put"),
                         (("take", "m"), ("read", "x"), ("give", "m"), ("take", "m"), ("write", "x"), ("give", "m")))
        guards = [Stretch(MIXED, "a", ((3, 1), (0, 0)), 0, 2), Stretch(MIXED, "a", (), 0, 3),
                  Stretch(MIXED, "b", (), 0, 1)]
        new = guarded(MIXED, guards, lock="n")
        self.assertEqual(new.row("a"), (
            ("take", "n"), ("take", "m"), ("read", "x"), ("give", "m"), ("give", "n"),
            ("choose", (("read", "x"), OWN),
             (("repeat", (("take", "n"), ("write", "x"), OWN, ("give", "n"))),)), ("add", "x")))
        self.assertEqual(new.row("b"), (("take", "n"), ("read", "x"), ("give", "n"), ("write", "x")))
        new = guarded(MIXED, [Stretch(MIXED, "a", ((3, 0),), 1, 2), Stretch(MIXED, "a", (), 4, 5)], lock="n")
        self.assertEqual(new.row("a")[3:], (
            ("choose", (("read", "x"), ("take", "n"), OWN, ("give", "n")), (("repeat", (("write", "x"), OWN)),)),
            ("take", "n"), ("add", "x"), ("give", "n")))

    def test_carried_examples(self):
        self.assertEqual(carried(PAIR, [WHOLE], WHOLE, lock="m").steps(), [1, 2])
        both = [FIRST, Stretch(PAIR, "put", (), 1, 2)]
        self.assertEqual(carried(PAIR, both, WHOLE, lock="m").steps(), [1, 2, 3, 4])
        self.assertEqual(carried(PAIR, both, both[1], lock="m").steps(), [4])
        inner = Stretch(MIXED, "a", ((3, 1), (0, 0)), 0, 2)
        self.assertEqual(carried(lock="n", stretch=inner, guards=[inner, Stretch(MIXED, "a", (), 0, 3)],
                                 program=MIXED).path, ((5, 1), (0, 0)))
        around = Stretch(MIXED, "a", (), 3, 4)
        self.assertEqual(carried(MIXED, [around], inner, lock="n").path, ((4, 1), (0, 0)))
        self.assertEqual(carried(MIXED, [], around, lock="n"), around)

    def calls(self, program, guards, lock):
        stretch = everything(program)[0]
        return [lambda: guarded(program, guards, lock=lock), lambda: carried(program, guards, stretch, lock=lock),
                lambda: fault(program, guards, [stretch], lock=lock)]

    def test_name_taken_comes_first(self):
        wrong = Stretch(LOCKED, "put", (), 0, 1)
        for lock in ("x", "m"):
            for guards in ([], [wrong], [wrong, wrong]):
                for call in self.calls(LOCKED, guards, lock):
                    error = catch(call)
                    self.assertIs(error.__class__, NameTaken)
                    self.assertIs(error.name, lock)
        self.assertIsNone(catch(self.calls(LOCKED, [], "put")[0]))

    def test_not_balanced_comes_before_overlapping(self):
        good, wrong = Stretch(LOCKED, "put", (), 1, 3), Stretch(LOCKED, "put", (), 0, 2)
        for guards, index in (([wrong], 0), ([good, wrong, good], 1),
                              ([good, good, Stretch(LOCKED, "put", (), 2, 4)], 2)):
            for call in self.calls(LOCKED, guards, "Bad"):
                error = catch(call)
                self.assertIs(error.__class__, NotBalanced)
                self.assertEqual(error.index, index)

    def test_overlapping_comes_before_invalid(self):
        part = Stretch(LOCKED, "put", (), 1, 2)
        around, inner = Stretch(MIXED, "a", (), 3, 4), Stretch(MIXED, "a", ((3, 1), (0, 0)), 0, 1)
        for program, guards, pair in ((LOCKED, [part, Stretch(LOCKED, "put", (), 2, 3), part], (0, 2)),
                                      (MIXED, [Stretch(MIXED, "b", (), 0, 2), inner, around], (1, 2))):
            for call in self.calls(program, guards, "Bad"):
                error = catch(call)
                self.assertIs(error.__class__, OverlappingStretches)
                self.assertEqual((error.one, error.other), pair)

    def test_invalid_program(self):
        long = Program([("free", (OWN,)), ("long", (OWN,) * 11)])
        three = Program([("a", sum([(("take", name), ("give", name)) for name in "klm"], ()) + (OWN,))])
        cases = [(long, Stretch(long, "long", (), 0, 1), "new", 1, "form"),
                 (three, Stretch(three, "a", (), 6, 7), "new", None, "many")]
        cases += [(PAIR, FIRST, lock, 0, "form") for lock in [*odd_values(), 5, "longnames", "A", "a b"]]
        for program, guard, lock, index, why in cases:
            for call in self.calls(program, [guard], lock):
                error = catch(call)
                self.assertIs(error.__class__, InvalidProgram)
                self.assertEqual((error.index, error.why), (index, why))

    def test_arguments_by_name_only(self):
        for call in (lambda: guarded(PAIR, [], "m"), lambda: carried(PAIR, [], WHOLE, "m"),
                     lambda: fault(PAIR, [], [], "m"), lambda: cost([], 1),
                     lambda: next(tried_guards(PAIR, [], [], "m")),
                     lambda: cheapest(PAIR, [], [], "m"), lambda: guarded(PAIR, [])):
            self.assertIs(catch(call).__class__, TypeError)


def slow_fault(program, guards, wished, lock):
    """The second answer: carried stretches and stuck threads are looked up by the definitions."""
    new = slow_guarded(program, guards, lock)
    for index, stretch in enumerate(wished):
        path, begin, end, _ = Layout(program, stretch.kind, guards, lock).moved(stretch)
        if not is_unbroken(Stretch(new, stretch.kind, path, begin, end)):
            return ("broken", index)
    return ("stuck",) if slow_calm_table(new) is None else None


# The new lock is taken around a section of m by one kind, and within one by the other kind.
KNOT = Program([("a", (("read", "x"), ("take", "m"), OWN, ("give", "m"), ("write", "x"))),
                ("b", (("take", "m"), ("write", "x"), ("give", "m")))])
KNOT_WISH = [Stretch(KNOT, "a", (), 0, 5), Stretch(KNOT, "b", (), 0, 3)]
KNOT_GUARDS = [Stretch(KNOT, "a", (), 0, 5), Stretch(KNOT, "b", (), 1, 2)]


class FaultTest(unittest.TestCase):
    def test_against_the_definition(self):
        rng = random.Random(62)
        seen = {}
        for program in some_programs():
            for guards in guard_lists(program, rng, 4):
                if catch(slow_guarded, program, guards, "new") is None:
                    wished = rng.sample(everything(program), min(4, len(everything(program))))
                    found = fault(program, guards, wished, lock="new")
                    self.assertEqual(found, slow_fault(program, guards, wished, "new"))
                    word = None if found is None else found[0]
                    seen[word] = seen.get(word, 0) + 1
        self.assertGreater(min(seen["broken"], seen[None]), 10)

    def test_examples(self):
        self.assertEqual(fault(PAIR, [], [WHOLE], lock="m"), ("broken", 0))
        self.assertEqual(fault(PAIR, [FIRST], [FIRST, FIRST, WHOLE, WHOLE], lock="m"), ("broken", 2))
        self.assertIsNone(fault(lock="m", wished=[FIRST, WHOLE], guards=[WHOLE], program=PAIR))
        self.assertIsNone(fault(PAIR, [], [], lock="m"))

    def test_stuck_and_broken_before_stuck(self):
        self.assertEqual(fault(KNOT, KNOT_GUARDS, [], lock="n"), ("stuck",))
        self.assertEqual(fault(KNOT, KNOT_GUARDS, [KNOT_WISH[1]], lock="n"), ("stuck",))
        self.assertEqual(fault(KNOT, [], KNOT_WISH[::-1], lock="n"), ("broken", 1))
        apart_guards = [KNOT_GUARDS[1], Stretch(KNOT, "a", (), 0, 4)]
        self.assertEqual(fault(KNOT, apart_guards, KNOT_WISH[::-1], lock="n"), ("broken", 1))
        self.assertIsNotNone(slow_calm_table(KNOT))
        self.assertIsNone(slow_calm_table(guarded(KNOT, apart_guards, lock="n")))


class CostTest(unittest.TestCase):
    def test_costs(self):
        guards = [Stretch(MIXED, "a", (), 3, 4), Stretch(MIXED, "b", (), 0, 2), Stretch(MIXED, "b", (), 0, 1)]
        for step_cost, guard_cost in itertools.product((0, 1, 7, 1000), repeat=2):
            self.assertEqual(cost(guards, step_cost=step_cost, guard_cost=guard_cost), 7 * step_cost + 3 * guard_cost)
        self.assertEqual([cost(guards), cost([]), cost(guard_cost=5, guards=guards)], [7, 0, 22])
        self.assertEqual([cost([], step_cost=9, guard_cost=9), cost(guards, step_cost=2)], [0, 14])


def slow_tries(program, wished, choices, lock, step_cost, guard_cost):
    ranked = []
    for many in range(len(choices) + 1):
        for indices in itertools.combinations(range(len(choices)), many):
            guards = [choices[at] for at in indices]
            if apart(guards) and catch(slow_guarded, program, guards, lock) is None:
                total = step_cost * sum(len(guard.steps()) for guard in guards) + guard_cost * many
                ranked.append((total, many, indices))
    found = []
    for total, _, indices in sorted(ranked):
        found.append((total, indices, slow_fault(program, [choices[at] for at in indices], wished, lock)))
        if found[-1][2] is None:
            break
    return found


class TriedTest(unittest.TestCase):
    def test_against_the_definition(self):
        rng = random.Random(63)
        seen = {True: 0, False: 0}
        sizes = set()
        for program in some_programs():
            balanced = [stretch for stretch in everything(program) if slow_balanced(stretch)]
            for _ in range(2):
                choices = rng.sample(balanced, min(rng.randint(0, 4), len(balanced)))
                wished = rng.sample(everything(program), min(2, len(everything(program))))
                costs = {"step_cost": rng.choice([0, 1, 3]), "guard_cost": rng.choice([0, 0, 1, 5])}
                expected = slow_tries(program, wished, choices, "new", **costs)
                found = list(tried_guards(program, wished, choices, lock="new", **costs))
                self.assertEqual(found, expected)
                best = cheapest(program, wished, choices, lock="new", **costs)
                if expected and expected[-1][2] is None:
                    self.assertEqual(best, (expected[-1][0], [choices[at] for at in expected[-1][1]]))
                    sizes.add(len(best[1]))
                else:
                    self.assertIsNone(best)
                seen[best is None] += 1
        self.assertGreater(min(seen.values()), 15)
        self.assertLessEqual({0, 1}, sizes)

    def test_examples(self):
        choices = [WHOLE, FIRST]
        self.assertEqual(list(tried_guards(PAIR, [WHOLE], choices, lock="m")),
                         [(0, (), ("broken", 0)), (1, (1,), ("broken", 0)), (2, (0,), None)])
        self.assertEqual(cheapest(PAIR, [WHOLE], choices, lock="m"), (2, [WHOLE]))
        self.assertEqual(cheapest(guard_cost=3, lock="m", choices=choices, wished=[], program=PAIR, step_cost=2),
                         (0, []))
        self.assertIsNone(cheapest(PAIR, [WHOLE], [FIRST], lock="m"))
        self.assertEqual(list(tried_guards(PAIR, [WHOLE], choices, lock="m", step_cost=0, guard_cost=2)),
                         [(0, (), ("broken", 0)), (2, (0,), None)])

    def test_two_guards(self):
        choices = [Stretch(KNOT, "b", (), 0, 3), KNOT_GUARDS[1], KNOT_GUARDS[0]]
        found = list(tried_guards(KNOT, KNOT_WISH, choices, lock="n"))
        self.assertEqual(found[-1], (8, (0, 2), None))
        self.assertIn((6, (1, 2), ("stuck",)), found)
        self.assertEqual([indices for _, indices, _ in found], [(), (1,), (0,), (2,), (1, 2), (0, 2)])
        self.assertEqual(cheapest(KNOT, KNOT_WISH, choices, lock="n"), (8, [choices[0], choices[2]]))

    def test_sets_that_make_too_many_steps(self):
        long = Program([("a", (("read", "x"), ("write", "x"), *[OWN] * 7, ("read", "x")))])
        wished = [Stretch(long, "a", (), 0, 10)]
        parts = [Stretch(long, "a", (), at, at + 1) for at in (0, 1, 9)]
        self.assertEqual([indices for _, indices, _ in tried_guards(long, wished, parts, lock="m")],
                         [(), (0,), (1,), (2,)])
        self.assertEqual([indices for _, indices, _ in tried_guards(long, wished, [*parts, *wished], lock="Bad")], [()])

    def test_generator(self):
        choices, wished = [WHOLE, FIRST], [WHOLE]
        found = tried_guards(PAIR, wished, choices, lock="m")
        self.assertEqual(found.__class__.__name__, "generator")
        self.assertEqual(next(found), (0, (), ("broken", 0)))
        choices.clear()
        wished.clear()
        self.assertEqual(list(found), [(1, (1,), ("broken", 0)), (2, (0,), None)])
        late = tried_guards(PAIR, wished, choices, lock="x")
        self.assertIs(catch(next, late).__class__, NameTaken)
        late = tried_guards(PAIR, wished, choices, lock="m")
        wished.append(WHOLE)
        choices.append(WHOLE)
        self.assertEqual(list(late), [(0, (), ("broken", 0)), (2, (0,), None)])
        _, guards = cheapest(PAIR, wished, choices, lock="m")
        guards.clear()
        self.assertEqual(choices, [WHOLE])

    def test_errors(self):
        good, wrong = Stretch(LOCKED, "put", (), 1, 3), Stretch(LOCKED, "put", (), 0, 2)

        def errors(choices, lock):
            return [catch(lambda: list(tried_guards(LOCKED, [], choices, lock=lock))),
                    catch(lambda: cheapest(LOCKED, [], choices, lock=lock))]
        for many in (6, 7):
            for error in errors([wrong] * many, "m"):
                self.assertIs(error.__class__, TooMany)
                self.assertEqual((error.what, error.count), ("choices", many))
        for error in errors([wrong] * 5, "x"):
            self.assertIs(error.__class__, NameTaken)
            self.assertEqual(error.name, "x")
        for error in errors([good, good, wrong, wrong], "n"):
            self.assertIs(error.__class__, NotBalanced)
            self.assertEqual(error.index, 2)
        self.assertEqual(errors([good] * 5, "n"), [None, None])

    def test_five_choices(self):
        row = tuple(("write", name) for name in "xyzwx")
        program = Program([("a", row)])
        choices = [Stretch(program, "a", (), at, at + 1) for at in range(5)]
        found = list(tried_guards(program, [Stretch(program, "a", (), 0, 5)], choices, lock="m"))
        # Three guards of one step each make five steps eleven, and four make them thirteen.
        self.assertEqual([indices for _, indices, _ in found],
                         [chosen for many in range(4) for chosen in itertools.combinations(range(5), many)])


class GuaranteeTest(unittest.TestCase):
    def test_the_cheapest_guards_are_exact(self):
        rng = random.Random(64)
        seen = {True: 0, False: 0}
        for program in [PAIR, *small_programs(25, 604, 2, 4, names=("x",), locks=())]:
            wished = rng.sample(everything(program), min(2, len(everything(program))))
            choices = sorted(everything(program), key=lambda one: -len(one))[:3]
            good = []
            for many in range(4):
                for indices in itertools.combinations(range(len(choices)), many):
                    guards = [choices[at] for at in indices]
                    if apart(guards) and catch(slow_guarded, program, guards, "m") is None:
                        new = slow_guarded(program, guards, "m")
                        carry = [carried(program, guards, stretch, lock="m") for stretch in wished]
                        if not any(crowd_breaks(stretch, most_others(new)) for stretch in carry):
                            good.append((sum(len(guard) for guard in guards), many, indices))
            found = cheapest(program, wished, choices, lock="m")
            seen[found is None] += 1
            if good:
                self.assertEqual(found, (min(good)[0], [choices[at] for at in min(good)[2]]))
            else:
                self.assertIsNone(found)
        self.assertGreater(min(seen.values()), 1)

    def test_rows_of_guarded_programs(self):
        for program in some_programs()[:15]:
            for stretch in everything(program)[::4]:
                if slow_balanced(stretch) and catch(slow_guarded, program, [stretch], "new") is None:
                    new = guarded(program, [stretch], lock="new")
                    self.assertEqual([len(rows(new, kind)) for kind in new.kinds],
                                     [len(rows(program, kind)) for kind in program.kinds])
