"""[22] States and moves, with the definitions of [12] and [13]."""

import random
import unittest

from unbrokenruns.errors import InvalidState
from unbrokenruns.programs import Program
from unbrokenruns.states import moves
from unbrokenruns.stretches import Stretch, all_stretches
from tests.models import LOOP, catch, odd_values
from tests.slow_states import all_states, closure, slow_moves, small_programs

OWN = ("own",)
PAIR = Program([("put", (("read", "x"), ("write", "x")))])
WHOLE = Stretch(PAIR, "put", (), 0, 2)
LOCKED = Program([
    ("a", (("take", "m"), ("read", "x"), ("give", "m"), ("take", "n"), ("add", "x"), ("give", "n"))),
    ("b", (("repeat", (("take", "n"), ("take", "m"), ("write", "x"), ("give", "m"), ("give", "n"))), OWN)),
])
MIDDLE = Stretch(LOCKED, "a", (), 1, 5)


class MovesTest(unittest.TestCase):
    def check(self, stretch, state):
        with self.subTest(kind=stretch.kind, path=stretch.path, begin=stretch.begin, end=stretch.end, state=state):
            self.assertEqual(moves(stretch, state), slow_moves(stretch, state))

    def test_second_answer_for_all_states(self):
        for stretch in [WHOLE, Stretch(PAIR, "put", (), 1, 2), MIDDLE, Stretch(LOCKED, "b", ((0, 0),), 1, 4)]:
            for state in all_states(stretch):
                self.check(stretch, state)

    def test_second_answer_for_small_programs(self):
        rng = random.Random(6)
        for program in small_programs(60, 51, 3, 6) + small_programs(15, 52, 2, 12, locks=("m", "n", "k")):
            kind = rng.choice(program.kinds)
            stretch = rng.choice(list(all_stretches(program, kind)))
            states = all_states(stretch)
            for state in rng.sample(states, min(len(states), 40)):
                self.check(stretch, state)

    def test_second_answer_for_states_that_are_reached(self):
        rng = random.Random(7)
        for program in small_programs(25, 53, 2, 6):
            kind = rng.choice(program.kinds)
            stretch = rng.choice(list(all_stretches(program, kind)))
            states = sorted(closure(stretch, [(-1, (), ())])[0])
            for state in rng.sample(states, min(len(states), 40)):
                self.check(stretch, state)

    def test_no_carrier(self):
        self.assertEqual(moves(WHOLE, (-1, (), ())), ([(0, (), ()), (0, (), ("own", "x", "read"))], False))
        self.assertEqual(moves(WHOLE, (1, (), ())), ([], False))
        self.assertEqual(moves(MIDDLE, (-1, (), ())), (
            [(-1, (("a", 0),), ()), (-1, (("a", 3),), ()), (-1, (("b", 0),), ()), (0, (), ())], False))

    def test_own_is_taken_up(self):
        self.assertEqual(moves(WHOLE, (0, (), ("own", "x", "read"))), (
            [(0, (), ("thread", "put", 1)), (1, (), ("own", "x", "read")), (1, (), ("own", "x", "write"))], False))
        self.assertEqual(moves(WHOLE, (0, (), ("own", "x", "write"))), (
            [(0, (), ("thread", "put", 0)), (0, (), ("thread", "put", 1)), (1, (), ("own", "x", "write"))], False))

    def test_object_breaks_the_pass(self):
        found, breaks = moves(WHOLE, (0, (), ("object", "x", "write")))
        self.assertIs(breaks, True)
        self.assertEqual(found, [(0, (), ("thread", "put", 0)), (0, (), ("thread", "put", 1)),
                                 (1, (), ("object", "x", "write")), (1, (), ("own", "x", "write"))])
        self.assertIs(moves(WHOLE, (0, (), ("object", "x", "add")))[1], True)
        self.assertIs(moves(WHOLE, (1, (), ("object", "x", "write")))[1], False)
        self.assertIs(moves(WHOLE, (0, (), ("own", "x", "write")))[1], False)
        self.assertIs(moves(Stretch(PAIR, "put", (), 0, 1), (0, (), ("object", "x", "write")))[1], False)

    def test_words_that_do_not_conflict(self):
        program = Program([("a", (("read", "x"), ("read", "x"), ("add", "y")))])
        whole = Stretch(program, "a", (), 0, 3)
        self.assertEqual(moves(whole, (0, (), ("object", "x", "read"))),
                         ([(1, (), ("object", "x", "read")), (1, (), ("own", "x", "read"))], False))
        self.assertEqual(moves(whole, (1, (), ("object", "y", "add"))),
                         ([(2, (), ("object", "y", "add")), (2, (), ("own", "y", "add"))], False))

    def test_a_thread_without_a_lock(self):
        self.assertEqual(moves(WHOLE, (0, (), ("thread", "put", 0))), (
            [(0, (), ("object", "x", "read")), (0, (), ("thread", "put", 1)), (1, (), ("own", "x", "write")),
             (1, (), ("thread", "put", 0))], False))
        self.assertEqual(moves(MIDDLE, (3, (), ("thread", "a", 5)))[0], [
            (3, (), ("object", "n", "give")), (3, (("a", 0),), ("thread", "a", 5)),
            (4, (), ("own", "x", "add")), (4, (), ("thread", "a", 5))])

    def test_a_thread_with_a_lock(self):
        state = (3, (("a", 0),), ("thread", "a", 0))
        self.assertEqual(moves(MIDDLE, state), (
            [(3, (("a", 0),), ("object", "m", "take")), (3, (("a", 1),), ("thread", "a", 1)),
             (4, (("a", 0),), ("own", "x", "add")), (4, (("a", 0),), ("thread", "a", 0))], False))
        state = (3, (("a", 1),), ("thread", "a", 1))
        self.assertIn((3, (), ("thread", "a", 2)), moves(MIDDLE, state)[0])
        self.assertNotIn((3, (), ("thread", "a", 1)), moves(MIDDLE, state)[0])

    def test_the_carrier_stays_or_another_one_takes_the_chain_up(self):
        found = moves(MIDDLE, (3, (("a", 0),), ("own", "x", "write")))[0]
        self.assertIn((3, (("a", 1),), ("own", "x", "write")), found)
        self.assertIn((3, (("a", 1),), ("thread", "a", 1)), found)
        self.assertNotIn((3, (("a", 1),), ("own", "x", "write")), moves(MIDDLE, (3, (), ("own", "x", "write")))[0])

    def test_blocked_takes(self):
        self.assertEqual([state for state in moves(MIDDLE, (2, (("b", 0),), ()))[0] if state[0] == 3], [])
        self.assertEqual([state for state in moves(MIDDLE, (3, (("a", 1),), ()))[0] if ("b", 0) in state[1]], [])
        self.assertEqual(moves(MIDDLE, (1, (("b", 0),), ())), (
            [(2, (("b", 0),), ()), (2, (("b", 0),), ("own", "m", "give"))], False))

    def test_going_around(self):
        program = Program([("a", (("repeat", (("read", "x"), ("write", "y"))), OWN))])
        inner = Stretch(program, "a", ((0, 0),), 0, 2)
        outer = Stretch(program, "a", (), 0, 1)
        carrier = ("object", "x", "write")
        self.assertEqual([moves(inner, (1, (), carrier))[1], moves(outer, (1, (), carrier))[1]], [False, True])
        self.assertEqual([state for state in moves(inner, (1, (), carrier))[0] if state[0] != 1], [])
        self.assertIn((0, (), carrier), moves(outer, (1, (), carrier))[0])
        self.assertNotIn((2, (), carrier), moves(outer, (1, (), carrier))[0])
        self.assertIn((0, (), ("own", "x", "read")), moves(inner, (1, (), ()))[0])

    def test_results_are_new(self):
        found = moves(WHOLE, (-1, (), ()))
        self.assertIs(found.__class__, tuple)
        found[0].clear()
        self.assertEqual(len(moves(WHOLE, (-1, (), ()))[0]), 2)
        self.assertEqual(moves(state=(-1, (), ()), stretch=WHOLE), moves(WHOLE, (-1, (), ())))


class InvalidStateTest(unittest.TestCase):
    def check(self, stretch, value):
        error = catch(moves, stretch, value)
        with self.subTest(value=value):
            self.assertIs(error.__class__, InvalidState)
            self.assertIs(error.value, value)

    def test_any_value(self):
        for value in [*odd_values(), 0, "x", (0, ()), (0, (), (), ()), [0, (), ()], (0, [], ()), (0, (), [])]:
            self.check(WHOLE, value)

    def test_places(self):
        for value in [*odd_values(), -2, 6, 10 ** 50, "0", [0], (0,)]:
            self.check(MIDDLE, (value, (), ()))
        for place in range(-1, 6):
            self.assertIsNone(catch(moves, MIDDLE, (place, (), ())))

    def test_others(self):
        for others in [*[value for value in odd_values() if value != ()], 0, [("a", 0)], (("a", 0), ("a", 1)),
                       (("a", 0), ("a", 0)), (("b", 0), ("a", 0)), (("b", 0), ("b", 0)), (("b", 1), ("a", 0)),
                       (("a", 2),), (("a", -1),), (("a", 5),), (("b", 5),), (("a", 6),), (("a", -2),), (("c", 0),),
                       (["a", 0],), (("a",),), (("a", 0, 0),), (("a", True),), (("a", False),), (("a", "0"),),
                       (("a", None),), ((None, 0),), ((["a"], 0),), (("a", [0]),), ("a", 0), ((0, "a"),),
                       (("a", 0), None), (("a", 10 ** 50),)]:
            self.check(MIDDLE, (-1, others, ()))
        for others in [(("a", 0),), (("a", 0), ("b", 0)), (("a", 3),), (("b", 2),), (("a", 1), ("a", 4)), ()]:
            self.assertIsNone(catch(moves, MIDDLE, (-1, others, ())))

    def test_a_lock_that_is_held_twice(self):
        self.check(MIDDLE, (0, (("a", 0),), ()))
        self.check(MIDDLE, (1, (("b", 1),), ()))
        self.check(MIDDLE, (4, (("b", 0),), ()))
        self.check(MIDDLE, (4, (("a", 1), ("a", 3)), ()))
        self.assertIsNone(catch(moves, MIDDLE, (4, (("a", 1),), ())))

    def test_carriers(self):
        for carrier in [*[value for value in odd_values() if value != ()], 0, "own", ("own",), ("own", "x"),
                        ("own", "x", "read", 1), ["own", "x", "read"], ("own", "x", "take"), ("own", "m", "read"),
                        ("own", "m", "write"), ("own", "m", "add"), ("own", "y", "read"), ("own", "x", "own"),
                        ("object", "y", "read"), ("object", "x", "take"), ("object", "n", "add"),
                        ("other", "x", "read"), ("own", "x", "give"),
                        ("own", ["x"], "read"), ("own", "x", ["read"]), ("own", None, "read"), ("own", "x", None),
                        (["own"], "x", "read"), (None, "x", "read"), (True, "x", "read"), ("own", "read", "x"),
                        ("object", ("x",), "read"), ("own", "a", 1), ("thread",), ("thread", "a"),
                        ("thread", "a", -1), ("thread", "a", 6), ("thread", "a", -2), ("thread", "c", 0),
                        ("thread", "a", True), ("thread", "a", "2"), ("thread", "a", None), ("thread", None, 2),
                        ("thread", ["a"], 2), ("thread", "a", [2]), ("thread", "x", "read"), ("thread", "a", 2, 2),
                        ("thread", ("a", 2)), ("thread", "a", 0), ("thread", "b", 2), ("thread", "a", 3)]:
            self.check(MIDDLE, (2, (), carrier))
        for carrier in [("own", "x", "read"), ("own", "x", "write"), ("own", "x", "add"), ("own", "m", "take"),
                        ("object", "n", "give"), ("thread", "a", 2), ("thread", "a", 5), ("thread", "b", 5), ()]:
            self.assertIsNone(catch(moves, MIDDLE, (2, (), carrier)))

    def test_words_and_objects_that_no_step_has(self):
        for carrier in [("own", "x", "add"), ("object", "x", "add")]:
            self.assertEqual(moves(WHOLE, (0, (), carrier)), slow_moves(WHOLE, (0, (), carrier)))

    def test_a_carrier_at_a_place_that_is_not_in_the_stretch(self):
        for place in (-1, 0, 5):
            for carrier in (("own", "x", "read"), ("object", "x", "read"), ("thread", "a", 2)):
                self.check(MIDDLE, (place, (), carrier))
        for place in (1, 2, 3, 4):
            self.assertIsNone(catch(moves, MIDDLE, (place, (), ("own", "x", "read"))))

    def test_a_carrier_that_holds_a_lock_is_one_of_the_others(self):
        self.assertIsNone(catch(moves, MIDDLE, (2, (("a", 3),), ("thread", "a", 3))))
        self.assertIsNone(catch(moves, MIDDLE, (2, (("a", 1), ("a", 3)), ("thread", "a", 1))))
        self.check(MIDDLE, (2, (("a", 4),), ("thread", "a", 3)))
        self.check(MIDDLE, (2, (("b", 0),), ("thread", "b", 1)))

    def test_a_wrong_call_changes_nothing(self):
        value = (0, [("a", 0)], ())
        catch(moves, MIDDLE, value)
        self.assertEqual((value, MIDDLE.steps()), ((0, [("a", 0)], ()), [1, 2, 3, 4]))

    def test_odd_values_within(self):
        program = Program([LOOP])
        stretch = Stretch(program, "loop", (), 0, 2)
        for value in odd_values():
            self.check(stretch, (0, (value,), ()))
            self.check(stretch, (3, (), ("thread", "loop", value)))
            self.check(stretch, (3, (), ("thread", value, 3)))
            self.check(stretch, (3, (), ("object", value, "read")))
            self.check(stretch, (3, (), ("own", "x", value)))
            self.check(stretch, (3, (), (value, "x", "read")))
