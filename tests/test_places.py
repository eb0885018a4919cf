"""[16] Places, with the definitions of [4], [5] and [6]."""

import unittest

from unbrokenruns.errors import InvalidNumber, InvalidPlace, UnknownKind
from unbrokenruns.places import follows, held, walks
from unbrokenruns.programs import Program
from tests.models import LOOP, MAZE, NESTED, OPEN, catch, odd_values, random_rows, size, traces

OWN = ("own",)
ROWS = [LOOP[1], MAZE[1], NESTED[1], OPEN[1]] + random_rows(150, 3, most=9)


def one(row):
    return Program([("a", row)])


def all_follows(row):
    """The list of what may come next at -1, 0, .., from all ways through a row."""
    found = [set() for _ in range(size(row) + 1)]
    for trace in traces(row, 0, 2):
        place = -1
        for step, around in trace:
            found[place + 1].add((step, around))
            place = step
    return [sorted(coming) for coming in found]


def all_held(row, steps):
    """The list of what is held at -1, 0, .., from all ways through a row."""
    found = [set() for _ in range(size(row) + 1)]
    found[0].add(())
    for trace in traces(row, 0, 2):
        locks = set()
        for number, _ in trace:
            if steps[number][0] == "take":
                locks.add(steps[number][1])
            if steps[number][0] == "give":
                locks.remove(steps[number][1])
            found[number + 1].add(tuple(sorted(locks)))
    return found


class FollowsTest(unittest.TestCase):
    def test_all_places(self):
        for row in ROWS:
            expected = all_follows(row)
            with self.subTest(row=row):
                for place in range(-1, size(row)):
                    self.assertEqual(follows(one(row), "a", place), expected[place + 1])

    def test_kinds_do_not_mix(self):
        program = Program([LOOP, MAZE, OPEN])
        for name, row in [LOOP, MAZE, OPEN]:
            expected = all_follows(row)
            for place in range(-1, size(row)):
                self.assertEqual(follows(program, name, place), expected[place + 1])

    def test_a_row_without_choices(self):
        program = one((OWN, OWN, OWN))
        self.assertEqual([follows(program, "a", place) for place in (-1, 0, 1, 2)],
                         [[(0, False)], [(1, False)], [(2, False)], []])

    def test_repeats_that_may_be_passed_by(self):
        program = Program([OPEN])
        self.assertEqual(follows(program, "open", -1), [(0, False), (1, False)])
        self.assertEqual(follows(program, "open", 0), [(0, True), (1, False)])
        self.assertEqual(follows(program, "open", 1), [(2, False)])
        self.assertEqual(follows(program, "open", 2), [(1, True)])

    def test_a_row_without_one_of_its_inner_parts(self):
        program = Program([MAZE])
        self.assertEqual(follows(program, "maze", -1),
                         [(0, False), (1, False), (2, False), (5, False), (6, False)])
        self.assertEqual(follows(program, "maze", 0),
                         [(0, True), (1, False), (2, False), (5, False), (6, False)])
        self.assertEqual(follows(program, "maze", 1), [(1, True), (5, False), (6, False)])
        self.assertEqual(follows(program, "maze", 4), [(5, False), (6, False)])

    def test_going_around_a_row_with_chooses(self):
        program = Program([MAZE])
        self.assertEqual(follows(program, "maze", 5), [(8, False), (9, False)])
        self.assertEqual(follows(program, "maze", 6), [(7, False)])
        self.assertEqual(follows(program, "maze", 8), [(5, True), (6, True)])
        self.assertEqual(follows(program, "maze", 9), [(5, True), (6, True)])
        one_item = one((("repeat", (("choose", (OWN,), (OWN, OWN)),)), OWN))
        self.assertEqual(follows(one_item, "a", 0), [(0, True), (1, True), (3, False)])
        self.assertEqual(follows(one_item, "a", 1), [(2, False)])
        self.assertEqual(follows(one_item, "a", 2), [(0, True), (1, True), (3, False)])

    def test_a_choose_with_two_rows_that_may_be_passed_by(self):
        program = one((OWN, ("choose", (("repeat", (OWN,)),), (("repeat", (OWN,)), ("repeat", (OWN,)))), OWN))
        self.assertEqual(follows(program, "a", 0), [(1, False), (2, False), (3, False), (4, False)])
        self.assertEqual(follows(program, "a", 1), [(1, True), (4, False)])
        self.assertEqual(follows(program, "a", 2), [(2, True), (3, False), (4, False)])

    def test_around_is_true_or_false(self):
        for place in range(-1, 4):
            for pair in follows(Program([LOOP]), "loop", place):
                self.assertIs(pair.__class__, tuple)
                self.assertIn(pair[1].__class__, (bool,))

    def test_results_are_new(self):
        program = Program([LOOP])
        first = follows(program, "loop", 2)
        self.assertEqual(first, [(0, True), (3, False)])
        first.clear()
        self.assertEqual(follows(program, "loop", 2), [(0, True), (3, False)])
        locks = held(program, "loop", 0)
        locks.append("n")
        self.assertEqual(held(program, "loop", 0), ["m"])

    def test_arguments_by_name(self):
        program = Program([LOOP])
        self.assertEqual(follows(place=2, kind="loop", program=program), [(0, True), (3, False)])
        self.assertEqual(held(place=1, kind="loop", program=program), ["m"])


class HeldTest(unittest.TestCase):
    def test_all_places(self):
        for row in ROWS:
            program = one(row)
            expected = all_held(row, program.steps("a"))
            with self.subTest(row=row):
                for place in range(-1, size(row)):
                    self.assertEqual({tuple(held(program, "a", place))}, expected[place + 1])

    def test_from_take_to_give(self):
        program = one((OWN, ("take", "m"), OWN, ("give", "m"), OWN))
        self.assertEqual([held(program, "a", place) for place in range(-1, 5)], [[], [], ["m"], ["m"], [], []])

    def test_locks_of_the_rows_around(self):
        program = Program([NESTED])
        self.assertEqual([held(program, "nested", place) for place in range(-1, 12)], [
            [], ["m"], ["m", "n"], ["m", "n"], ["m"], ["m"], ["m"], ["m"],
            ["m", "n"], ["b", "m", "n"], ["m", "n"], ["m"], []])


class WalksTest(unittest.TestCase):
    def test_each_most(self):
        for row in [LOOP[1], OPEN[1], (OWN,), (OWN,) * 12, (("repeat", (("choose", (OWN,), (OWN, OWN)),)),)]:
            program = one(row)
            steps = {tuple(step for step, _ in trace) for trace in traces(row, 0, 8)}
            for most in range(9):
                expected = sorted({walk[:many] for walk in steps for many in range(min(most, len(walk)) + 1)})
                with self.subTest(row=row, most=most):
                    self.assertEqual(list(walks(program, "a", most=most)), [list(walk) for walk in expected])

    def test_many_rows(self):
        for row in ROWS:
            steps = {tuple(step for step, _ in trace) for trace in traces(row, 0, 3)} if size(row) < 8 else ()
            if steps:
                expected = sorted({walk[:many] for walk in steps for many in range(min(3, len(walk)) + 1)})
                with self.subTest(row=row):
                    self.assertEqual(list(walks(one(row), "a", most=3)), [list(walk) for walk in expected])

    def test_left_out(self):
        program = Program([OPEN])
        self.assertEqual(list(walks(program, "open")), list(walks(program, "open", most=4)))
        self.assertEqual(max(len(walk) for walk in walks(program, "open")), 4)

    def test_examples(self):
        program = Program([LOOP])
        self.assertEqual(list(walks(program, "loop", most=0)), [[]])
        self.assertEqual(list(walks(program, "loop", most=2)), [[], [0], [0, 1], [3]])
        self.assertEqual(list(walks(program, "loop", most=4)),
                         [[], [0], [0, 1], [0, 1, 2], [0, 1, 2, 0], [0, 1, 2, 3], [3]])

    def test_each_list_is_new(self):
        program = Program([OPEN])
        expected = list(walks(program, "open", most=3))
        seen = []
        for walk in walks(program, "open", most=3):
            seen.append(list(walk))
            walk.append(99)
            walk[0] = 77
        self.assertEqual(seen, expected)
        self.assertEqual(len({id(walk) for walk in expected}), len(expected))

    def test_it_is_a_generator(self):
        program = Program([OPEN])
        self.assertEqual(walks(program, "open").__class__.__name__, "generator")
        self.assertEqual(list(walks(most=1, kind="open", program=program)), [[], [0], [1]])
        wrong_number = walks(program, "open", most=9)
        wrong_kind = walks(program, "none")
        self.assertIs(catch(next, wrong_number).__class__, InvalidNumber)
        self.assertIs(catch(next, wrong_kind).__class__, UnknownKind)

    def test_most_is_by_name_only(self):
        self.assertIsInstance(catch(walks, Program([OPEN]), "open", 2), TypeError)


class ErrorsTest(unittest.TestCase):
    def test_invalid_place(self):
        program = Program([LOOP, OPEN])
        for value in [*odd_values(), "0", -2, 4, 5, 100, -100, 10 ** 50, -10 ** 50, [0], (0,), (-1,)]:
            for call in (follows, held):
                error = catch(call, program, "loop", value)
                with self.subTest(value=value):
                    self.assertIs(error.__class__, InvalidPlace)
                    self.assertIs(error.value, value)
        self.assertIs(catch(follows, program, "open", 3).__class__, InvalidPlace)
        self.assertIsNone(catch(follows, program, "open", 2))
        self.assertIsNone(catch(held, program, "loop", 3))

    def test_unknown_kind_comes_first(self):
        program = Program([LOOP])
        for value in [*odd_values(), 0, 1, "loops", "open", ["loop"], ("loop",)]:
            for place in (0, 99, None, True):
                for call in (follows, held):
                    error = catch(call, program, value, place)
                    with self.subTest(value=value, place=place):
                        self.assertIs(error.__class__, UnknownKind)
                        self.assertIs(error.kind, value)
            for most in (0, 4, 9, None, True):
                error = catch(next, walks(program, value, most=most))
                self.assertIs(error.__class__, UnknownKind)
                self.assertIs(error.kind, value)

    def test_invalid_number(self):
        program = Program([LOOP])
        for value in [*odd_values(), "4", -1, 9, 10, 10 ** 50, -10 ** 50, [4], (4,)]:
            error = catch(next, walks(program, "loop", most=value))
            with self.subTest(value=value):
                self.assertIs(error.__class__, InvalidNumber)
                self.assertIs(error.value, value)
        for value in range(9):
            self.assertEqual(next(walks(program, "loop", most=value)), [])

    def test_a_wrong_call_changes_nothing(self):
        program = Program([LOOP])
        catch(follows, program, "loop", 4)
        catch(held, program, "none", 0)
        catch(next, walks(program, "loop", most=-1))
        self.assertEqual(program, Program([LOOP]))
        self.assertEqual(follows(program, "loop", 2), [(0, True), (3, False)])
