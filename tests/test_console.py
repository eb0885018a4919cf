"""[34] The console, with a second console that uses the other modules."""

import random
import re
import unittest

from unbrokenruns.console import Console
from unbrokenruns.desk import Desk
from unbrokenruns.errors import RunsError, UnknownKind
from unbrokenruns.movers import LatePaper
from unbrokenruns.pairs import largest_unbroken
from unbrokenruns.programs import Program
from unbrokenruns.runs import Run
from unbrokenruns.stretches import Stretch, all_stretches
from unbrokenruns.stuck import stuck_threads
from unbrokenruns.tables import is_unbroken
from unbrokenruns.texts import program_text, read_run, read_stretch, steps_table, stretch_text
from tests.models import LOOP, MAZE, NESTED
from tests.slow_states import small_programs
from tests.test_desk import right_edits
from tests.test_stuck import slow_calm_table

OWN = ("own",)
PUT = ("put", (("read", "x"), ("write", "x")))
TWO = Program([
    ("p", (("take", "l"), ("write", "x"), ("read", "y"), ("take", "m"), ("give", "m"), ("give", "l"))),
    ("q", (("take", "m"), ("write", "y"), ("read", "x"), ("take", "l"), ("give", "l"), ("give", "m")))])
NUMBER = re.compile("0|[1-9][0-9]?")


def some_programs():
    return [Program([PUT]), Program([PUT, LOOP]), TWO, Program([LOOP, MAZE]), Program([NESTED]),
            *small_programs(15, 901, 3, 6)]


def everything(program):
    return [stretch for kind in program.kinds for stretch in all_stretches(program, kind)]


class SlowConsole:
    """A second console: each command is a regular expression, and the answers come from the other modules."""

    def __init__(self, program):
        self.desk = Desk(program)

    def answer(self, line):
        for form, call in (("(ask|known|late)(?: (.*))?", self.stretch), ("show", self.show),
                           ("steps ([^ ]*)", self.steps),
                           ("largest ([^ ]*)", self.largest), ("stuck", self.stuck), ("(drop) ([^ ]*)", self.edit),
                           ("(merge) ([^ ]*) ([^ ]*)", self.edit), ("(undo)", self.edit),
                           ("(strengthen|silence) ([^ ]*) ([^ ]*)", self.step_edit)):
            found = re.fullmatch(form, line, re.DOTALL)
            if found:
                try:
                    return call(*found.groups())
                except (RunsError, UnknownKind):
                    return ["refused"]
        return ["unknown command"]

    def show(self):
        return program_text(self.desk.now).split("\n")

    def steps(self, kind):
        return steps_table(self.desk.now, kind)

    def largest(self, kind):
        return [stretch_text(stretch) for stretch in largest_unbroken(self.desk.now, kind)]

    def stuck(self):
        return ["calm"] if slow_calm_table(self.desk.now) is not None else None

    def stretch(self, word, text):
        stretch = read_stretch(self.desk.now, text or "")
        if word == "late":
            paper = LatePaper.least(stretch)
            return ["none"] if paper is None else [" ".join(["late", *map(str, paper.late)])]
        if word == "ask":
            return ["unbroken" if self.desk.answer(stretch) else "broken"]
        return [{None: "unknown", True: "unbroken", False: "broken"}[self.desk.known(stretch)]]

    def edit(self, *parts):
        self.desk.apply(parts)
        return [f"done {self.desk.undoable}"]

    def step_edit(self, word, kind, number):
        if not NUMBER.fullmatch(number):
            return ["refused"]
        return self.edit(word, kind, int(number))


class CommandTest(unittest.TestCase):
    def test_show_steps_and_largest(self):
        for program in some_programs():
            console = Console(program=program)
            self.assertEqual(console(line="show"), program_text(program).split("\n"))
            for kind in program.kinds:
                self.assertEqual(console("steps " + kind), steps_table(program, kind))
                self.assertEqual(console("largest " + kind),
                                 [stretch_text(stretch) for stretch in largest_unbroken(program, kind)])
        console = Console(Program([PUT]))
        self.assertEqual(console("show"), ["put: read x; write x"])
        self.assertEqual(console("steps put"), [" 0 read  x        fixed   -", " 1 write x        fixed   -"])
        self.assertEqual(console("largest put"), ["put top 0-1", "put top 1-2"])
        for line in ("steps none", "steps ", "steps PUT", "largest none", "largest "):
            self.assertEqual(console(line), ["refused"])

    def test_stuck(self):
        for program in some_programs():
            lines = Console(program)("stuck")
            if slow_calm_table(program) is not None:
                self.assertEqual(lines, ["calm"])
            else:
                run = read_run(program, "\n".join(lines))
                self.assertEqual(stuck_threads(run), list(range(len(run.threads))))
                self.assertEqual(len(lines), 2)
        console = Console(TWO)
        lines = console("stuck")
        self.assertEqual(sorted(lines[0].split(" ")), ["p", "q"])
        self.assertEqual(read_run(TWO, "\n".join(lines)).__class__, Run)
        self.assertEqual(console("drop q") + console("stuck"), ["done 1", "calm"])

    def test_ask_and_known(self):
        for program in some_programs():
            console = Console(program)
            for stretch in everything(program):
                text = stretch_text(stretch)
                word = "unbroken" if is_unbroken(stretch) else "broken"
                self.assertEqual([console("known " + text), console("ask " + text), console("known " + text)],
                                 [["unknown"], [word], [word]])
            self.assertEqual(len(console.desk), len(everything(program)))

    def test_late(self):
        for program in some_programs():
            console = Console(program)
            for stretch in everything(program):
                paper = LatePaper.least(stretch)
                line = "none" if paper is None else " ".join(["late", *[str(number) for number in paper.late]])
                self.assertEqual(console("late " + stretch_text(stretch)), [line])
            self.assertEqual(len(console.desk), 0)
        console = Console(Program([("rest", (OWN,)), PUT, ("locked", (("take", "m"), OWN, ("give", "m")))]))
        self.assertEqual([console("late " + text) for text in ("rest top 0-1", "put top 0-2", "put top 1-2",
                                                               "locked top 0-3")],
                         [["late"], ["none"], ["late 1"], ["late 2"]])

    def test_edits(self):
        console = Console(Program([PUT, ("more", (("read", "y"), ("add", "y"), OWN))]))
        self.assertEqual(console("strengthen more 0"), ["done 1"])
        self.assertEqual(console("silence put 1"), ["done 2"])
        self.assertEqual(console("merge y x"), ["done 3"])
        self.assertEqual(console("show"), ["put: read x; own", "more: write x; add x; own"])
        self.assertEqual([console("drop more"), console("show")], [["done 4"], ["put: read x; own"]])
        self.assertEqual([console("undo"), console("undo"), console("undo")], [["done 3"], ["done 2"], ["done 1"]])
        self.assertEqual(console("show"), ["put: read x; write x", "more: write y; add y; own"])
        self.assertEqual([console("undo"), console("undo")], [["done 0"], ["refused"]])

    def test_answers_behind_edits(self):
        console = Console(Program([PUT]))
        self.assertEqual([console("ask put top 0-2"), console("known put top 0-2")], [["broken"], ["broken"]])
        console("strengthen put 0")
        self.assertEqual([console("known put top 0-2"), console("ask put top 0-1")], [["broken"], ["unbroken"]])
        console("silence put 0")
        self.assertEqual([console("known put top 0-2"), console("known put top 0-1")], [["unknown"], ["unbroken"]])
        self.assertEqual([console("ask put top 0-2"), console("late put top 0-2")], [["unbroken"], ["late 1"]])
        console("undo")
        self.assertEqual([console("known put top 0-2"), console("late put top 0-2")], [["broken"], ["none"]])

    def test_the_desk(self):
        program = Program([PUT])
        console = Console(program)
        self.assertIs(console.desk.__class__, Desk)
        self.assertIs(console.desk.now, program)
        console.desk.apply(("silence", "put", 0))
        console.desk.answer(Stretch(program, "put", (), 0, 2))
        self.assertEqual([console("known put top 0-2"), console("show"), console("undo")],
                         [["unbroken"], ["put: own; write x"], ["done 0"]])
        other = Console(program)
        other("silence put 1")
        self.assertEqual(console("show"), ["put: read x; write x"])


class FormTest(unittest.TestCase):
    def same(self, lines, program=Program([PUT, LOOP])):
        console, second = Console(program), SlowConsole(program)
        for line in lines:
            before = (console.desk.now, len(console.desk), console.desk.undoable)
            found, expected = console(line), second.answer(line)
            if expected is not None:
                self.assertEqual(found, expected, line)
            self.assertTrue(found.__class__ is list and all(part.__class__ is str for part in found))
            if found in (["refused"], ["unknown command"]):
                self.assertEqual((console.desk.now, len(console.desk), console.desk.undoable), before)
            self.assertEqual(console.desk.now, second.desk.now)
            self.assertEqual([console.desk.undoable, len(console.desk)], [second.desk.undoable, len(second.desk)])

    def test_unknown_commands(self):
        console = Console(Program([PUT]))
        for line in ("", " ", "  ", "help", "Show", "show ", " show", "show put", "steps", "steps put put",
                     "steps put ",
                     "steps  put", " steps put", "largest", "largest put ", "stuck put", "stuck ", "drop", "drop put x",
                     "merge", "merge x", "merge x y z", "merge x y ", "merge  x y", "strengthen", "strengthen put",
                     "strengthen put 0 1", "strengthen put  0", "silence put", "silence put 0 ", "undo ", "undo 1",
                     "asks put top 0-1", "asked", "knowns", "later", "latest put top 0-1", " ask put top 0-1", "show\n",
                     "ask\nput top 0-1", "undo\n", "add b (own)", "replace", "\n", "x" * 5000, " " * 40):
            self.assertEqual(console(line), ["unknown command"], line)
        self.assertEqual([len(console.desk), console.desk.undoable], [0, 0])

    def test_refused(self):
        console = Console(Program([PUT, LOOP]))
        for line in ("ask", "known", "late", "ask ", "known ", "late ", "ask put", "ask put top", "ask put top 0-9",
                     "ask  put top 0-1", "ask put top 0-1 ", "ask put top 0-1\n", "known none top 0-1",
                     "late put top 00-1",
                     "late put 0.0 0-1", "ask put top 0-1 0-1", "drop none", "drop ", "merge x x", "merge x m",
                     "merge z x",
                     "merge  ", "merge x ", "strengthen put 1", "strengthen put 2", "strengthen put x",
                     "strengthen put -1",
                     "strengthen put 00", "strengthen put 100", "strengthen put ", "strengthen none 0", "strengthen  0",
                     "silence loop 0", "silence loop 4", "silence loop 01", "silence loop +1", "silence  ", "undo",
                     "steps x", "largest x", "known put top 1-1", "strengthen put 0\n"):
            self.assertEqual(console(line), ["refused"], line)
        self.assertEqual([len(console.desk), console.desk.undoable], [0, 0])

    def test_against_the_second_console(self):
        rng = random.Random(91)
        words = ["ask", "known", "late", "show", "steps", "largest", "stuck", "drop", "merge", "strengthen", "silence",
                 "undo", "put", "loop", "x", "m", "0", "1", "01", "top", "0-1", "0-2", "0.0", "", "ask put top 0-2"]
        self.same([" ".join(rng.choice(words) for _ in range(rng.randint(0, 5))) for _ in range(1500)])
        for program in some_programs():
            lines = []
            for _ in range(30):
                edits = [edit for edit in right_edits(program) if edit[0] != "add"]
                choice = rng.randrange(4)
                if choice == 0 and edits:
                    lines.append(" ".join(str(part) for part in rng.choice(edits)))
                elif choice == 1:
                    lines.append(rng.choice(["undo", "show", "stuck", "steps a", "largest put", "largest a"]))
                else:
                    text = stretch_text(rng.choice(everything(program)))
                    lines.append(rng.choice(["ask ", "known ", "late "]) + text)
            self.same(lines, program)

    def test_answers_are_new(self):
        console = Console(Program([PUT]))
        for line in ("show", "steps put", "largest put", "stuck", "late put top 0-1", "x"):
            first = console(line)
            copy = list(first)
            first.clear()
            self.assertEqual(console(line), copy)
