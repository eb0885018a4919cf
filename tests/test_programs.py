"""[15] Programs, with the rules of [4], [5] and [6]."""

import itertools
import unittest

from unbrokenruns.errors import InvalidProgram, UnknownKind
from unbrokenruns.programs import Program
from tests.models import LOOP, MAZE, NESTED, OPEN, Thing, catch, odd_values, random_rows, row_tree, size

OWN = ("own",)
PAIR = ("put", (("read", "x"), ("write", "x")))
X = ("read", "x")
GOOD_ROWS = [
    (OWN,), (X,), (("write", "x"),), (("add", "x"),), (("take", "x"), ("give", "x")),
    (("choose", (OWN,), (OWN,)),), (("choose", (OWN,), (OWN,), (X, X)),), (("repeat", (OWN,)),),
    (OWN,) * 12, (("repeat", (OWN,) * 11), OWN), (("choose", (OWN,) * 4, (OWN,) * 4, (OWN,) * 4),),
    (("repeat", (("choose", (OWN,), (OWN,)),)),), (("choose", (("repeat", (OWN,)),), (OWN,)),),
    (("choose", (("choose", (OWN,), (OWN,)),), (OWN,)),), (("repeat", (OWN,)), ("repeat", (OWN,))),
    (("read", "abcdefgh"),), (("read", "own"), ("add", "read"), ("write", "repeat")),
    (("take", "m"), ("take", "n"), ("give", "n"), ("give", "m")), (("take", "m"), ("give", "m")) * 2,
    (("take", "m"), ("choose", (("take", "n"), ("give", "n")), (OWN,)), ("give", "m")),
    (("choose", (("take", "m"), ("give", "m")), (("take", "m"), ("give", "m"))), ("take", "m"), ("give", "m")),
    LOOP[1], MAZE[1], NESTED[1], OPEN[1],
]
BAD_ITEMS = [
    ("own", "x"), ("own", ()), ("read",), ("read", "x", "x"), ("read", "X"), ("read", ""), ("read", "x1"),
    ("read", "abcdefghi"), ("read", "x "), ("read", 1), ("read", None), ("read", True), ("read", ["x"]),
    ("read", ("x",)), ("read", b"x"), ("take",), ("take", "M"), ("take", "longnames"), ("take", "m", "m"), ("give", 0),
    ("give",), ("write", ""), ("add", ()), ("go", "x"), ("Read", "x"), ("", "x"), (None, "x"), (True, "x"),
    (["read"], "x"), (b"read", "x"), ["own"], ["read", "x"], "own", "read",
    ("choose",), ("choose", (OWN,)), ("choose", (OWN,), (OWN,), (OWN,), (OWN,)), ("choose", (OWN,), ()),
    ("choose", (), (OWN,)), ("choose", [OWN], (OWN,)), ("choose", OWN, (OWN,)), ("choose", ((OWN,), (OWN,))),
    ("choose", (OWN,), None), ("choose", "x"), ("choose", "own", "own"), ["choose", (OWN,), (OWN,)],
    ("repeat",), ("repeat", ()), ("repeat", OWN), ("repeat", (OWN,), (OWN,)), ("repeat", [OWN]), ("repeat", "x"),
    ("repeat", None), ("repeat", (("repeat", (OWN,)),)), ["repeat", (OWN,)], ("own", (OWN,)),
    ("repeat", (("choose", (("repeat", (OWN,)),), (OWN,)),)),
    ("repeat", (("choose", (OWN,), (OWN, ("repeat", (OWN,)))),)),
    ("choose", (("choose", (("choose", (OWN,), (OWN,)),), (OWN,)),), (OWN,)),
    ("choose", (("choose", (("repeat", (OWN,)),), (OWN,)),), (OWN,)),
    ("repeat", (("choose", (("choose", (OWN,), (OWN,)),), (OWN,)),)),
]
BAD_LOCKS = [
    (("take", "m"),), (("give", "m"),), (("give", "m"), ("take", "m")), (("take", "m"), ("give", "n")),
    (("take", "m"), ("take", "n"), ("give", "m"), ("give", "n")), (("take", "m"), ("take", "m"), ("give", "m")),
    (("take", "m"), ("take", "m"), ("give", "m"), ("give", "m")), (("take", "m"), ("give", "m"), ("give", "m")),
    (("take", "m"), OWN), (("repeat", (("take", "m"),)), ("give", "m")),
    (("take", "m"), ("choose", (("give", "m"),), (OWN,))), (("choose", (("take", "m"),), (OWN,)),),
    (("take", "m"), ("repeat", (("take", "m"), ("give", "m"))), ("give", "m")),
    (("take", "m"), ("repeat", (("give", "m"), ("take", "m"))), ("give", "m")),
    (("take", "m"), ("choose", (OWN,), (("take", "m"), ("give", "m"))), ("give", "m")),
    (("take", "m"), ("choose", (OWN,), (("repeat", (("take", "m"), ("give", "m"))),)), ("give", "m")),
    (("take", "m"), ("take", "n"), ("choose", (OWN,), (("take", "m"), ("give", "m"))), ("give", "n"), ("give", "m")),
    (OWN, ("choose", (OWN,), (OWN, ("give", "m"))), OWN),
]


def reason(kinds):
    """The arguments of the InvalidProgram that the kinds raise, or the error itself, or None."""
    error = catch(Program, kinds)
    return (error.index, error.why) if isinstance(error, InvalidProgram) else error


class ValidTest(unittest.TestCase):
    def test_rows(self):
        for row in GOOD_ROWS + random_rows(200, 1):
            with self.subTest(row=row):
                program = Program([("a", row)])
                self.assertEqual(program.row("a"), row)
                self.assertEqual(len(program.steps("a")), size(row))

    def test_list_and_tuple(self):
        for kinds in ([PAIR, LOOP], (PAIR, LOOP)):
            program = Program(kinds)
            self.assertEqual(program.kinds, ["put", "loop"])
            self.assertEqual((program.variables, program.locks, len(program)), (["x"], ["m"], 2))
        self.assertEqual(Program([PAIR, LOOP]), Program((PAIR, LOOP)))

    def test_by_name(self):
        self.assertEqual(Program(kinds=[PAIR]).kinds, ["put"])
        self.assertEqual(Program([PAIR]).row(kind="put"), PAIR[1])
        self.assertEqual(Program([PAIR]).steps(kind="put"), list(PAIR[1]))

    def test_names_are_ascending(self):
        program = Program([
            ("zz", (("write", "d"), ("take", "r"), ("add", "b"), ("give", "r"))),
            ("a", (("take", "q"), ("read", "c"), ("give", "q"), ("take", "p"), ("give", "p"), ("read", "aa"))),
            ("m", (("add", "b"), ("read", "d"))),
        ])
        self.assertEqual(program.kinds, ["zz", "a", "m"])
        self.assertEqual(program.variables, ["aa", "b", "c", "d"])
        self.assertEqual(program.locks, ["p", "q", "r"])

    def test_names_of_inner_rows(self):
        program = Program([NESTED, MAZE])
        self.assertEqual((program.variables, program.locks), (["x", "y"], ["b", "m", "n"]))
        self.assertEqual(Program([("a", (("repeat", (("add", "q"),)),))]).variables, ["q"])
        self.assertEqual(Program([("a", (OWN,))]).variables, [])
        self.assertEqual(Program([("a", (OWN,))]).locks, [])

    def test_steps_by_their_numbers(self):
        self.assertEqual(Program([LOOP]).steps("loop"), [("take", "m"), ("read", "x"), ("give", "m"), ("own",)])
        self.assertEqual(Program([NESTED]).steps("nested"), [
            ("take", "m"), ("take", "n"), OWN, ("give", "n"), ("write", "x"), OWN, OWN,
            ("take", "n"), ("take", "b"), ("give", "b"), ("give", "n"), ("give", "m")])

    def test_steps_of_all_rows(self):
        for row in random_rows(100, 2):
            steps = Program([("a", row)]).steps("a")
            for _, items, bounds in row_tree(row):
                for item, (first, behind) in zip(items, bounds):
                    if item[0] not in ("choose", "repeat"):
                        self.assertEqual((steps[first], behind), (item, first + 1))

    def test_bounds(self):
        self.assertEqual((Program.MAX_KINDS, Program.MAX_VARIABLES, Program.MAX_LOCKS), (4, 4, 3))
        self.assertEqual(Program([PAIR]).MAX_KINDS, 4)


class TellingTest(unittest.TestCase):
    def test_len_and_in(self):
        program = Program([PAIR, LOOP])
        self.assertIs("put" in program, True)
        self.assertIs("loop" in program, True)
        for value in [*odd_values(), "pu", "x", "m", "read", 0, 1, PAIR, LOOP, ["put"], ("put",), b"put", "PUT"]:
            with self.subTest(value=value):
                self.assertIs(value in program, False)

    def test_equality(self):
        program = Program([PAIR, LOOP])
        self.assertIs(program == Program((PAIR, LOOP)), True)
        self.assertIs(program != Program((PAIR, LOOP)), False)
        for other in [Program([LOOP, PAIR]), Program([PAIR]), Program([LOOP]), Program([PAIR, LOOP, OPEN]),
                      Program([("puts", PAIR[1]), LOOP]), Program([("put", PAIR[1] + (OWN,)), LOOP])]:
            self.assertIs(program == other, False)
            self.assertIs(program != other, True)
        for value in [*odd_values(), 0, 2, [PAIR, LOOP], (PAIR, LOOP), "put", ["put", "loop"]]:
            with self.subTest(value=value):
                self.assertIs(program == value, False)
                self.assertIs(program != value, True)

    def test_changed_results_have_no_effect(self):
        program = Program([PAIR, LOOP])
        for tell in (lambda: program.kinds, lambda: program.variables, lambda: program.locks,
                     lambda: program.steps("loop")):
            before = tell()
            copy = list(before)
            before.append("new")
            before[0] = None
            self.assertEqual(tell(), copy)
            before.clear()
            self.assertEqual(tell(), copy)
        self.assertEqual(program, Program([PAIR, LOOP]))
        self.assertEqual(("new" in program, len(program)), (False, 2))

    def test_changed_argument_has_no_effect(self):
        kinds = [PAIR, LOOP]
        program = Program(kinds)
        self.assertEqual(kinds, [PAIR, LOOP])
        kinds.append(OPEN)
        kinds[0] = ("new", (OWN,))
        self.assertEqual((program.kinds, len(program), "new" in program), (["put", "loop"], 2, False))
        self.assertEqual(program, Program([PAIR, LOOP]))

    def test_properties_cannot_be_assigned(self):
        program = Program([PAIR])
        for name in ("kinds", "variables", "locks"):
            self.assertIsInstance(getattr(Program, name), property)
            self.assertIsInstance(catch(setattr, program, name, []), AttributeError)

    def test_unknown_kind(self):
        program = Program([PAIR, LOOP])
        for value in [*odd_values(), "pu", "puts", "x", 0, 1, -1, PAIR, ("put",), ["put"], b"put"]:
            for call in (program.row, program.steps):
                error = catch(call, value)
                with self.subTest(value=value):
                    self.assertIs(error.__class__, UnknownKind)
                    self.assertIs(error.kind, value)
        self.assertEqual(program, Program([PAIR, LOOP]))


class InvalidTest(unittest.TestCase):
    def test_kinds_of_another_form(self):
        five = [(name, (OWN,)) for name in "abcde"]
        self.assertIsNone(reason(five[:4]))
        for kinds in [*odd_values(), [], (), five, tuple(five), dict(five), set(five), iter(five[:1]), five[0], "a",
                      0, 1, {"a": (OWN,)}, {0: five[0]}]:
            if not isinstance(kinds, (list, tuple)) or len(kinds) in (0, 5):
                with self.subTest(kinds=kinds):
                    self.assertEqual(reason(kinds), (None, "form"))

    def test_the_list_comes_before_its_items(self):
        self.assertEqual(reason([None] * 5), (None, "form"))
        self.assertEqual(reason([PAIR] * 5), (None, "form"))

    def test_odd_kinds(self):
        for value in [*odd_values(), 0, 1, "a", ("a",), ("a", (OWN,), (OWN,)), ["a", (OWN,)], ("a", [OWN]),
                      ("a", OWN), ("a", "own"), ("a", ()), ("a", None), ("a", X), ((OWN,), "a")]:
            for kinds in ([value], (value,), [value, PAIR]):
                with self.subTest(kinds=kinds):
                    self.assertEqual(reason(kinds), (0, "form"))
            self.assertEqual(reason([PAIR, value]), (1, "form"))
            self.assertEqual(reason([PAIR, LOOP, OPEN, value]), (3, "form"))

    def test_odd_names(self):
        for name in [*odd_values(), 0, 1, "abcdefghi", "a1", "a_", "aB", "a-b", "a\n", "`", "{"]:
            with self.subTest(name=name):
                self.assertEqual(reason([(name, (OWN,))]), (0, "form"))
                self.assertEqual(reason([("a", (("read", name),))]), (0, "form"))
                self.assertEqual(reason([("a", (("take", name), ("give", name)))]), (0, "form"))
        for name in ["a", "z", "abcdefgh", "own", "read", "choose", "repeat"]:
            self.assertIsNone(reason([(name, (("read", name),))]))
            self.assertIsNone(reason([(name, (("take", name), ("give", name)))]))

    def test_odd_rows_and_items(self):
        for value in [*odd_values(), 0, 1, "a", *BAD_ITEMS]:
            for row in [(value,), (OWN, value), (value, OWN), (("repeat", (OWN, value)),),
                        (("choose", (OWN,), (value,)),), (("choose", (OWN,), (OWN,), (OWN, value, OWN)),)]:
                with self.subTest(row=row):
                    self.assertEqual(reason([("a", row)]), (0, "form"))
        for value in [*odd_values(), 0, 1, "a", "own", OWN, [OWN]]:
            for item in [("repeat", value), ("choose", (OWN,), value), ("choose", value, (OWN,)),
                         ("choose", (OWN,), (OWN,), value)]:
                with self.subTest(item=item):
                    self.assertEqual(reason([("a", (item,))]), (0, "form"))

    def test_depth(self):
        third = ("choose", (OWN,), (OWN,))
        second = ("choose", (third,), (OWN,))
        self.assertIsNone(reason([("a", (second,))]))
        self.assertEqual(reason([("a", (("choose", (second,), (OWN,)),))]), (0, "form"))
        self.assertEqual(reason([("a", (("choose", (OWN,), (OWN,), (OWN, second)),))]), (0, "form"))
        self.assertIsNone(reason([("a", (("repeat", (third,)),))]))
        self.assertEqual(reason([("a", (("repeat", (second,)),))]), (0, "form"))
        self.assertIsNone(reason([("a", (("choose", (("repeat", (OWN,)),), (OWN,)),))]))
        self.assertEqual(reason([("a", (("choose", (("repeat", (third,)),), (OWN,)),))]), (0, "form"))

    def test_steps_of_a_kind(self):
        for row in [(OWN,) * 13, (("repeat", (OWN,) * 12), OWN), (("choose", (OWN,) * 6, (OWN,) * 7),),
                    (("choose", (OWN,) * 4, (("repeat", (OWN,) * 4),), (OWN,) * 5),)]:
            self.assertEqual(reason([("a", row)]), (0, "form"))
            self.assertIsNone(reason([("a", (OWN,) * 12), ("b", (OWN,) * 12)]))
        self.assertEqual(reason([("a", (("take", "m"),) * 13)]), (0, "form"))

    def test_same_name(self):
        self.assertEqual(reason([PAIR, PAIR]), (1, "name"))
        self.assertEqual(reason([PAIR, LOOP, ("loop", (OWN,))]), (2, "name"))
        self.assertEqual(reason([LOOP, PAIR, OPEN, ("loop", (OWN,))]), (3, "name"))

    def test_locks(self):
        for row in BAD_LOCKS:
            with self.subTest(row=row):
                self.assertEqual(reason([("bad", row)]), (0, "lock"))
                self.assertEqual(reason([PAIR, ("bad", row)]), (1, "lock"))
                if size(row) <= 10:
                    self.assertEqual(reason([("bad", (("choose", (OWN,), (OWN,)), *row))]), (0, "lock"))

    def test_locks_of_all_short_rows(self):
        steps = [("take", "m"), ("give", "m"), ("take", "n"), ("give", "n")]
        good = {()}
        for _ in range(3):
            good |= {(("take", lock), *a, ("give", lock), *b) for lock in "mn" for a in good for b in good
                     if ("take", lock) not in a and len(a) + len(b) <= 4}
        for many in range(1, 7):
            for row in itertools.product(steps, repeat=many):
                self.assertEqual(reason([("a", row)]), None if row in good else (0, "lock"), row)

    def test_mixed(self):
        locked = (("take", "x"), ("give", "x"))
        for word in ("read", "write", "add"):
            self.assertEqual(reason([("a", locked + ((word, "x"),))]), (None, "mixed"))
            self.assertEqual(reason([("a", locked), ("b", ((word, "x"),))]), (None, "mixed"))
            self.assertEqual(reason([("a", ((word, "x"),)), ("b", (("repeat", locked),))]), (None, "mixed"))

    def test_many(self):
        four = tuple(("read", name) for name in "abcd")
        three = tuple((word, name) for name in "lmn" for word in ("take", "give"))
        self.assertIsNone(reason([("a", four), ("b", three)]))
        self.assertEqual(reason([("a", four + (("add", "e"),))]), (None, "many"))
        self.assertEqual(reason([("a", four), ("b", (("choose", (OWN,), (("write", "e"),)),))]), (None, "many"))
        self.assertEqual(reason([("a", three + (("take", "o"), ("give", "o")))]), (None, "many"))
        self.assertEqual(reason([("a", three), ("b", (("take", "o"), ("give", "o")))]), (None, "many"))

    def test_which_reason_comes_first(self):
        bad_lock = ("take", "m")
        mixed = (("take", "x"), ("give", "x"), ("read", "x"))
        many = tuple(("read", name) for name in "abcde")
        self.assertEqual(reason([("a", (bad_lock, ()))]), (0, "form"))
        self.assertEqual(reason([PAIR, ("put", (bad_lock,))]), (1, "name"))
        self.assertEqual(reason([PAIR, ("put", (bad_lock, ()))]), (1, "form"))
        self.assertEqual(reason([("a", (bad_lock,)), ("a", ())]), (0, "lock"))
        self.assertEqual(reason([("a", (bad_lock,)), ("a", (OWN,))]), (0, "lock"))
        self.assertEqual(reason([PAIR, PAIR, ("a", ())]), (1, "name"))
        self.assertEqual(reason([PAIR, PAIR, ("a", (bad_lock,))]), (1, "name"))
        self.assertEqual(reason([("a", mixed), ("b", (bad_lock,))]), (1, "lock"))
        self.assertEqual(reason([("a", many), ("b", None)]), (1, "form"))
        self.assertEqual(reason([("a", many), ("b", mixed)]), (None, "mixed"))
        self.assertEqual(reason([("a", mixed), ("a", many)]), (1, "name"))

    def test_a_wrong_call_changes_nothing(self):
        kinds = [PAIR, ["a", [("own",)]], {"b": []}]
        self.assertEqual(reason(kinds), (1, "form"))
        self.assertEqual(kinds, [PAIR, ["a", [("own",)]], {"b": []}])
        thing = Thing()
        self.assertEqual(reason([PAIR, thing]), (1, "form"))
