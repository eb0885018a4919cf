"""[32] Desks, with a second desk made from the definition that goes along with random edits."""

import random
import unittest

from unbrokenruns.desk import Desk, Trial, tried
from unbrokenruns.errors import (InvalidNumber, InvalidProgram, InvalidStretch, LastKind, NotAccess, NothingToUndo,
                                 NotWeak, RunsError, SameName, UnknownEdit, UnknownKind, UnknownName)
from unbrokenruns.programs import Program
from unbrokenruns.stretches import Stretch, all_stretches
from unbrokenruns.tables import is_unbroken
from tests.models import LOOP, MAZE, NESTED, OPEN, catch, odd_values
from tests.slow import flat
from tests.slow_states import small_programs

OWN = ("own",)
PUT = ("put", (("read", "x"), ("write", "x")))
PAIR = Program([PUT])
WHOLE = Stretch(PAIR, "put", (), 0, 2)
FIRST = Stretch(PAIR, "put", (), 0, 1)
BOTH = Program([("a", (("read", "x"), ("add", "y"), ("take", "m"), ("write", "x"), ("give", "m"), OWN)), PUT])


def changed(row, change, first=0):
    """A row in which the step with each number, as it is written, is what change makes of the two."""
    found = []
    for item in row:
        if item[0] in ("choose", "repeat"):
            inners = []
            for inner in item[1:]:
                inners.append(changed(inner, change, first))
                first += len(flat(inner))
            found.append((item[0], *inners))
        else:
            found.append(change(first, item))
            first += 1
    return tuple(found)


def kinds_of(program):
    return [(kind, program.row(kind)) for kind in program.kinds]


def slow_edited(program, edit):
    """The program behind a right edit, and a function that tells whether a known verdict is kept."""
    word = edit[0]
    if word == "add":
        return Program([*kinds_of(program), edit[1:]]), lambda kind, verdict: not verdict
    if word == "drop":
        return (Program([kind for kind in kinds_of(program) if kind[0] != edit[1]]),
                lambda kind, verdict: verdict and kind != edit[1])
    if word == "merge":
        def merge(number, step):
            return (step[0], edit[2]) if step[1:] == (edit[1],) else step
        return (Program([(kind, changed(row, merge)) for kind, row in kinds_of(program)]),
                lambda kind, verdict: not verdict)
    if word == "replace":
        return edit[1], lambda kind, verdict: False

    def weaken(number, step):
        if number != edit[2]:
            return step
        return OWN if word == "silence" else ("write", step[1])
    return (Program([(kind, changed(row, weaken) if kind == edit[1] else row) for kind, row in kinds_of(program)]),
            lambda kind, verdict: verdict is (word == "silence"))


class SlowDesk:
    """A second desk: everything that was before an edit is copied."""

    def __init__(self, program):
        self.program, self.verdicts, self.past = program, {}, []

    def copy(self):
        return self.program, dict(self.verdicts), [(program, dict(verdicts)) for program, verdicts in self.past]

    def back(self, copied):
        program, verdicts, past = copied
        self.program, self.verdicts, self.past = program, dict(verdicts), list(past)

    def apply(self, edit):
        if edit == ("undo",):
            self.program, self.verdicts = self.past.pop()
            self.verdicts = dict(self.verdicts)
            return
        self.past.append((self.program, dict(self.verdicts)))
        self.program, keeps = slow_edited(self.program, edit)
        self.verdicts = {key: verdict for key, verdict in self.verdicts.items() if keeps(key[0], verdict)}

    def answer(self, stretch):
        here = stretch.of(self.program)
        key = (here.kind, here.path, here.begin, here.end)
        self.verdicts[key] = is_unbroken(here)
        return self.verdicts[key]


def everything(program):
    return [stretch for kind in program.kinds for stretch in all_stretches(program, kind)]


def right_edits(program):
    """All right edits of a program but replace and undo, and some that add a kind."""
    found = []
    if len(program) < 4:
        for row in ((("read", "x"),), (OWN, ("write", "x")), (("take", "m"), ("add", "y"), ("give", "m"))):
            found.extend(("add", name, row) for name in "ef" if name not in program)
    if len(program) > 1:
        found.extend(("drop", kind) for kind in program.kinds)
    found.extend(("merge", one, other) for one in program.variables for other in program.variables if one != other)
    for kind in program.kinds:
        for number, step in enumerate(program.steps(kind)):
            if step[0] in ("read", "add"):
                found.append(("strengthen", kind, number))
            if step[0] in ("read", "add", "write"):
                found.append(("silence", kind, number))
    return [edit for edit in found if edit[0] != "add" or catch(slow_edited, program, edit) is None]


def some_programs():
    return [PAIR, BOTH, Program([LOOP, MAZE]), Program([OPEN, NESTED]), *small_programs(25, 701, 3, 6)]


class DeskCase(unittest.TestCase):
    def same(self, desk, second):
        """The desk tells the same as the second desk, and all verdicts that it knows are right."""
        self.assertEqual(desk.now, second.program)
        self.assertEqual([len(desk), desk.undoable], [len(second.verdicts), len(second.past)])
        for stretch in everything(second.program):
            key = (stretch.kind, stretch.path, stretch.begin, stretch.end)
            self.assertIs(desk.known(stretch), second.verdicts.get(key))

    def right(self, desk):
        for stretch in everything(desk.now):
            self.assertIn(desk.known(stretch), (None, is_unbroken(stretch)))


class EditTest(DeskCase):
    def test_every_edit(self):
        words = set()
        for program in some_programs():
            before = kinds_of(program)
            for edit in [*right_edits(program), ("replace", PAIR), ("replace", program)]:
                words.add(edit[0])
                desk, second = Desk(program), SlowDesk(program)
                for stretch in everything(program):
                    self.assertIs(desk.answer(stretch), second.answer(stretch))
                self.assertIsNone(desk.apply(edit))
                second.apply(edit)
                self.same(desk, second)
                self.right(desk)
                desk.apply(("undo",))
                second.apply(("undo",))
                self.same(desk, second)
                self.assertEqual(desk.now, program)
            self.assertEqual(kinds_of(program), before)
        self.assertEqual(words, {"add", "drop", "merge", "strengthen", "silence", "replace"})

    def test_examples(self):
        desk = Desk(program=BOTH)
        desk.apply(edit=("strengthen", "a", 1))
        desk.apply(("silence", "put", 1))
        desk.apply(("merge", "y", "x"))
        self.assertEqual(kinds_of(desk.now), [
            ("a", (("read", "x"), ("write", "x"), ("take", "m"), ("write", "x"), ("give", "m"), OWN)),
            ("put", (("read", "x"), OWN))])
        desk.apply(("drop", "a"))
        desk.apply(("add", "new", (("add", "z"),)))
        self.assertEqual(kinds_of(desk.now), [("put", (("read", "x"), OWN)), ("new", (("add", "z"),))])
        self.assertEqual(desk.undoable, 5)

    def check(self, program, edit, wrong, **values):
        desk = Desk(program)
        known = everything(program)[:4]
        answers = [desk.answer(stretch) for stretch in known]
        desk.apply(("replace", program))
        desk.apply(("undo",))
        desk.apply(("replace", PAIR))
        desk.apply(("undo",))
        error = catch(desk.apply, edit)
        self.assertIs(error.__class__, wrong, edit)
        for name, value in values.items():
            self.assertIs(getattr(error, name), value)
        self.assertEqual([desk.known(stretch) for stretch in known], answers)
        self.assertEqual([desk.now, len(desk), desk.undoable], [program, len(known), 0])
        desk.apply(("replace", PAIR))
        self.assertIs(catch(desk.apply, ("drop", "put")).__class__, LastKind)
        self.assertEqual([desk.now, desk.undoable], [PAIR, 1])

    def test_add_errors(self):
        for name, row, why in (("put", (OWN,), "name"), ("Bad", (OWN,), "form"), ("b", (), "form"),
                               ("b", [OWN], "form"),
                               (None, None, "form"), ("b", (("take", "m"),), "lock"), ("b", (OWN,) * 13, "form")):
            desk = Desk(PAIR)
            error = catch(desk.apply, ("add", name, row))
            self.assertIs(error.__class__, InvalidProgram)
            self.assertEqual((error.index, error.why), (1, why))
            self.check(PAIR, ("add", name, row), InvalidProgram)
        self.check(PAIR, ("add", "b", (("take", "x"), ("give", "x"))), InvalidProgram, index=None, why="mixed")
        full = Program([(kind, (OWN,)) for kind in "abcd"])
        self.check(full, ("add", "e", (OWN,)), InvalidProgram, index=None, why="form")
        many = Program([("a", tuple(("read", name) for name in "wxyz"))])
        self.check(many, ("add", "b", (("read", "v"),)), InvalidProgram, index=None, why="many")
        for value in odd_values():
            self.check(PAIR, ("add", "b", value), InvalidProgram)
            self.check(PAIR, ("add", value, (OWN,)), InvalidProgram)

    def test_drop_errors(self):
        for value in [*odd_values(), 0, "b", "x"]:
            self.check(PAIR, ("drop", value), UnknownKind, kind=value)
            self.check(BOTH, ("drop", value), UnknownKind, kind=value)
        self.check(PAIR, ("drop", "put"), LastKind, kind="put")

    def test_merge_errors(self):
        for value in [*odd_values(), 0, "z", "m", "a"]:
            self.check(BOTH, ("merge", value, "x"), UnknownName, name=value)
            self.check(BOTH, ("merge", "x", value), UnknownName, name=value)
            self.check(BOTH, ("merge", value, "nothing"), UnknownName, name=value)
        self.check(BOTH, ("merge", "x", "x"), SameName, name="x")

    def test_strengthen_and_silence_errors(self):
        for word in ("strengthen", "silence"):
            for value in [*odd_values(), 0, "b", "x"]:
                self.check(BOTH, (word, value, 0), UnknownKind, kind=value)
                self.check(BOTH, (word, value, -1), UnknownKind, kind=value)
            for value in [*odd_values(), -1, 6, 12, "0"]:
                self.check(BOTH, (word, "a", value), InvalidNumber, value=value)
        for number in (2, 3, 4, 5):
            self.check(BOTH, ("strengthen", "a", number), NotWeak, number=number)
        for number in (2, 4, 5):
            self.check(BOTH, ("silence", "a", number), NotAccess, number=number)

    def test_unknown_edit(self):
        for word in ("", "Add", "adds", "answer", "now", "undo ", "redo", "own"):
            self.check(PAIR, (word,), UnknownEdit, word=word)
            self.check(PAIR, (word, "put", 0), UnknownEdit, word=word)

    def test_nothing_to_undo(self):
        self.check(PAIR, ("undo",), NothingToUndo)
        desk = Desk(PAIR)
        desk.apply(("silence", "put", 0))
        desk.apply(("undo",))
        self.assertIs(catch(desk.apply, ("undo",)).__class__, NothingToUndo)


class UndoTest(DeskCase):
    def test_random_edits(self):
        rng = random.Random(71)
        programs = some_programs()
        for program in programs:
            desk, second = Desk(program), SlowDesk(program)
            for _ in range(25):
                choice = rng.randrange(10)
                if choice < 4:
                    for stretch in rng.sample(everything(second.program), min(3, len(everything(second.program)))):
                        self.assertIs(desk.answer(stretch), second.answer(stretch))
                elif choice < 7 and right_edits(second.program):
                    edit = rng.choice(right_edits(second.program))
                    desk.apply(edit)
                    second.apply(edit)
                elif choice == 7:
                    other = rng.choice(programs)
                    if rng.randrange(2):
                        desk.now = other
                    else:
                        desk.apply(("replace", other))
                    second.apply(("replace", other))
                elif second.past:
                    desk.apply(("undo",))
                    second.apply(("undo",))
                else:
                    self.assertIs(catch(desk.apply, ("undo",)).__class__, NothingToUndo)
                self.same(desk, second)
            while second.past:
                desk.apply(("undo",))
                second.apply(("undo",))
                self.same(desk, second)
            self.assertIs(desk.now, program)

    def test_verdicts_after_an_undo(self):
        desk = Desk(PAIR)
        desk.answer(WHOLE)
        desk.apply(("silence", "put", 0))
        self.assertEqual([desk.known(WHOLE), desk.answer(WHOLE), desk.known(WHOLE)], [None, True, True])
        desk.answer(FIRST)
        desk.apply(("undo",))
        self.assertEqual([desk.known(WHOLE), desk.known(FIRST), len(desk)], [False, None, 1])
        desk.answer(FIRST)
        desk.apply(("silence", "put", 1))
        self.assertEqual([desk.known(WHOLE), desk.known(FIRST), len(desk)], [None, True, 1])

    def test_undo_is_not_undone(self):
        desk = Desk(PAIR)
        for number in (0, 1):
            desk.apply(("silence", "put", number))
        self.assertEqual(desk.undoable, 2)
        desk.apply(("undo",))
        self.assertEqual([desk.undoable, desk.now.steps("put")], [1, [OWN, ("write", "x")]])
        desk.apply(("undo",))
        self.assertEqual([desk.undoable, desk.now], [0, PAIR])

    def test_many_edits(self):
        desk = Desk(PAIR)
        for _ in range(300):
            desk.apply(("strengthen", "put", 0))
            desk.apply(("undo",))
            desk.now = PAIR
        self.assertEqual(desk.undoable, 300)


class AnswerTest(DeskCase):
    def test_now_and_undoable(self):
        desk = Desk(PAIR)
        self.assertIs(desk.now, PAIR)
        self.assertEqual([len(desk), desk.undoable], [0, 0])
        desk.answer(WHOLE)
        desk.now = BOTH
        self.assertIs(desk.now, BOTH)
        self.assertEqual([len(desk), desk.undoable, desk.known(WHOLE)], [0, 1, None])
        with self.assertRaises(AttributeError):
            desk.undoable = 5

    def test_answers(self):
        for program in some_programs():
            desk = Desk(program)
            many = 0
            for stretch in everything(program):
                self.assertIsNone(desk.known(stretch=stretch))
                self.assertEqual(len(desk), many)
                many += 1
                for _ in range(2):
                    self.assertIs(desk.answer(stretch=stretch), is_unbroken(stretch))
                    self.assertIs(desk.known(stretch), is_unbroken(stretch))
                self.assertEqual([len(desk), desk.undoable], [many, 0])

    def test_stretches_of_other_programs(self):
        other = Program([("put", (OWN, OWN, OWN)), ("more", (OWN,))])
        desk = Desk(PAIR)
        self.assertIs(desk.answer(Stretch(other, "put", (), 0, 2)), False)
        self.assertEqual([desk.known(WHOLE), len(desk)], [False, 1])
        for call in (desk.answer, desk.known):
            error = catch(call, Stretch(other, "put", (), 0, 3))
            self.assertIs(error.__class__, InvalidStretch)
            self.assertEqual((error.path, error.begin, error.end), ((), 0, 3))
            error = catch(call, Stretch(other, "more", (), 0, 1))
            self.assertIs(error.__class__, UnknownKind)
            self.assertEqual(error.kind, "more")
        self.assertEqual(len(desk), 1)

    def test_stretches_that_are_gone(self):
        desk = Desk(BOTH)
        gone = [Stretch(BOTH, "a", (), 0, 1), Stretch(BOTH, "put", (), 0, 2)]
        self.assertEqual([desk.answer(stretch) for stretch in gone], [True, False])
        desk.apply(("drop", "a"))
        self.assertIs(catch(desk.known, gone[0]).__class__, UnknownKind)
        self.assertEqual([len(desk), desk.known(gone[1])], [0, None])
        desk.apply(("undo",))
        self.assertEqual([desk.known(stretch) for stretch in gone], [True, False])

    def test_two_desks(self):
        one, other = Desk(PAIR), Desk(PAIR)
        one.answer(WHOLE)
        one.apply(("silence", "put", 0))
        self.assertEqual([len(other), other.undoable, other.now, other.known(WHOLE)], [0, 0, PAIR, None])
        with Trial(other):
            one.apply(("silence", "put", 1))
        self.assertEqual([one.undoable, other.undoable], [2, 0])


class TrialTest(DeskCase):
    def ready(self):
        desk, second = Desk(BOTH), SlowDesk(BOTH)
        for stretch in everything(BOTH)[:9]:
            desk.answer(stretch)
            second.answer(stretch)
        for edit in (("silence", "a", 0), ("strengthen", "put", 0)):
            desk.apply(edit)
            second.apply(edit)
        desk.answer(Stretch(BOTH, "put", (), 1, 2))
        second.answer(Stretch(BOTH, "put", (), 1, 2))
        return desk, second

    def upset(self, desk):
        desk.apply(("undo",))
        for stretch in everything(desk.now):
            desk.answer(stretch)
        desk.apply(("undo",))
        for stretch in everything(desk.now):
            desk.answer(stretch)
        desk.apply(("drop", "a"))
        desk.now = PAIR

    def test_an_ordinary_end(self):
        desk, second = self.ready()
        with Trial(desk=desk) as held:
            self.assertIs(held, desk)
            self.same(desk, second)
            self.upset(held)
            self.assertEqual([desk.now, desk.undoable], [PAIR, 2])
        self.same(desk, second)
        for _ in range(2):
            desk.apply(("undo",))
            second.apply(("undo",))
            self.same(desk, second)

    def test_an_exception(self):
        desk, second = self.ready()
        for error in (KeyError("x"), NothingToUndo()):
            with self.assertRaises(error.__class__):
                with Trial(desk) as held:
                    self.upset(held)
                    raise error
            self.same(desk, second)
        with self.assertRaises(UnknownEdit):
            with Trial(desk):
                desk.apply(("drop", "a"))
                desk.apply(("other",))
        self.same(desk, second)

    def test_again_and_one_within_another(self):
        desk, second = self.ready()
        trial = Trial(desk)
        for number in range(2):
            with trial:
                self.upset(desk)
                with Trial(desk) as inner:
                    inner.apply(("silence", "put", 1))
                    self.assertEqual(desk.now.steps("put"), [("read", "x"), OWN])
                self.assertEqual(desk.now, PAIR)
            self.same(desk, second)
            desk.apply(("silence", "put", number))
            second.apply(("silence", "put", number))
        with trial:
            self.upset(desk)
        self.same(desk, second)

    def test_tried(self):
        desk = Desk(PAIR)
        self.assertEqual([desk.answer(WHOLE), tried(desk, [("silence", "put", 0)], [WHOLE]), desk.known(WHOLE),
                          desk.undoable], [False, [True], False, 0])
        edits, stretches = [("add", "b", (OWN,)), ("silence", "put", 1)], [WHOLE, FIRST, WHOLE]
        self.assertEqual(tried(stretches=stretches, edits=edits, desk=desk), [True, True, True])
        self.assertEqual([len(edits), stretches, len(desk), desk.now], [2, [WHOLE, FIRST, WHOLE], 1, PAIR])
        self.assertEqual([tried(desk, [], []), tried(desk, [], [WHOLE, FIRST]), len(desk)], [[], [False, True], 1])

    def test_tried_against_edits(self):
        rng = random.Random(72)
        for program in some_programs():
            desk, second = Desk(program), SlowDesk(program)
            for stretch in everything(program)[::2]:
                desk.answer(stretch)
                second.answer(stretch)
            edits = right_edits(program)
            if edits:
                edit = rng.choice(edits)
                after, _ = slow_edited(program, edit)
                self.assertEqual(tried(desk, [edit], everything(after)),
                                 [is_unbroken(stretch) for stretch in everything(after)])
                self.same(desk, second)

    def test_tried_with_errors(self):
        desk, second = self.ready()
        gone = Stretch(BOTH, "a", (), 0, 1)
        far = Stretch(Program([("put", (OWN,) * 4)]), "put", (), 2, 4)
        for edits, stretches, kind in (
                ([("drop", "b")], [gone], UnknownKind), ([("drop", "a")], [gone], UnknownKind),
                ([("drop", "a"), ("drop", "put")], [gone], LastKind), ([], [far], InvalidStretch),
                ([("undo",), ("undo",), ("undo",), ("other",)], [far], NothingToUndo),
                ([("other",), ("undo",)], [], UnknownEdit), ([("silence", "a", 9)], [far], InvalidNumber),
                ([("add", "b", ()), ("drop", "b")], [], InvalidProgram), ([("merge", "x", "x")], [], SameName)):
            error = catch(tried, desk, edits, stretches)
            self.assertIs(error.__class__, kind)
            self.assertIsInstance(error, (RunsError, UnknownKind))
            self.same(desk, second)
