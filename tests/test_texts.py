"""[33] Texts of programs, stretches and runs, with second readers that use regular expressions."""

import random
import re
import unittest

from unbrokenruns.errors import BadText, InvalidProgram, InvalidStretch, InvalidThreads, NotPossible, UnknownKind
from unbrokenruns.programs import Program
from unbrokenruns.runs import Run
from unbrokenruns.stretches import Stretch, all_stretches
from unbrokenruns.texts import (program_text, read_program, read_run, read_stretch, run_text, steps_table,
                                stretch_text)
from tests.models import LOOP, MAZE, NESTED, OPEN, catch, odd_values
from tests.slow import flat, holding
from tests.slow_states import small_programs
from tests.test_movers import slow_motion

OWN = ("own",)
STEP = re.compile(r"(^[a-z]{1,8}: |\(|\| |; )(own|(?:read|write|add|take|give) [a-z]{1,8})(?=; | \||\)|$)")
ROW = r"#\d+#(?:; #\d+#)*"
GROUP = re.compile(rf"(?:repeat \({ROW}\)|choose \({ROW}(?: \| {ROW}){{1,2}}\))")
NUMBER = r"(?:0|[1-9][0-9]?)"
STRETCH = re.compile(rf"[a-z]{{1,8}} (?:top|{NUMBER}\.{NUMBER}(?:/{NUMBER}\.{NUMBER})*) {NUMBER}-{NUMBER}")
EVENTS = re.compile(rf"none|{NUMBER}\.{NUMBER}(?: {NUMBER}\.{NUMBER})*")
NAMES = re.compile(r"[a-z]{1,8}(?: [a-z]{1,8})*")
SIGNS = "abz #:;|()01239.-/AZ,own\n"


def slow_kind(line):
    """The kind of a line, or None: first all steps are replaced by numbers, and then the innermost groups."""
    items = []

    def put(item):
        items.append(item)
        return f"#{len(items) - 1}#"

    def row_of(text):
        return tuple(items[int(number)] for number in re.findall(r"#(\d+)#", text))

    if "#" in line or len(line) > 400:
        return None
    before = None
    while before != line:
        before = line
        line = STEP.sub(lambda found: found[1] + put(tuple(found[2].split(" "))), line)
    before = None
    while before != line:
        before = line
        line = GROUP.sub(lambda found: put((found[0][:6], *[row_of(text) for text in found[0].split("|")])), line)
    found = re.fullmatch(rf"([a-z]{{1,8}}): ({ROW})", line)
    return (found[1], row_of(found[2])) if found else None


def slow_text(row):
    parts = []
    for item in row:
        if item[0] in ("choose", "repeat"):
            parts.append(item[0] + " (" + " | ".join(slow_text(inner) for inner in item[1:]) + ")")
        else:
            parts.append(" ".join(item))
    return "; ".join(parts)


def some_programs():
    return [Program([LOOP, MAZE]), Program([OPEN, NESTED]), Program([("put", (("read", "x"), ("write", "x")))]),
            *small_programs(30, 801, 4, 7), *small_programs(20, 802, 2, 12, names=("x", "y", "z"))]


def bent(text):
    """All texts with one character left out, doubled, put in or replaced."""
    found = []
    for at in range(len(text) + 1):
        found.extend(text[:at] + sign + text[at:] for sign in SIGNS)
        if at < len(text):
            found.append(text[:at] + text[at + 1:])
            found.append(text[:at] + text[at] + text[at:])
            found.extend(text[:at] + sign + text[at + 1:] for sign in SIGNS)
    return found


class ProgramTextTest(unittest.TestCase):
    def test_there_and_back(self):
        for program in some_programs():
            text = program_text(program)
            self.assertEqual(text, "\n".join(kind + ": " + slow_text(program.row(kind)) for kind in program.kinds))
            self.assertEqual(read_program(text), program)
            self.assertEqual(program_text(program=read_program(text=text)), text)

    def test_examples(self):
        self.assertEqual(program_text(Program([LOOP])), "loop: repeat (take m; read x; give m); own")
        program = Program([("a", (("choose", (("read", "x"), OWN), (("repeat", (("add", "own"),)),), (OWN,)),)),
                           ("choose", (("choose", (("write", "repeat"),), (OWN,)),))])
        self.assertEqual(program_text(program), "a: choose (read x; own | repeat (add own) | own)\n"
                                                "choose: choose (write repeat | own)")
        self.assertEqual(read_program(program_text(program)), program)
        error = catch(read_program, "a: own\nb: own;own")
        self.assertEqual((error.__class__, error.line), (BadText, 2))

    def check(self, text):
        """What read_program does with a text, which the second reader tells."""
        kinds = [slow_kind(line) for line in text.split("\n")]
        found = catch(read_program, text)
        if None in kinds:
            self.assertIs(found.__class__, BadText, text)
            self.assertEqual(found.line, kinds.index(None) + 1, text)
            return "bad"
        expected = catch(Program, kinds)
        if expected is not None:
            self.assertIs(found.__class__, InvalidProgram, text)
            self.assertEqual((found.index, found.why), (expected.index, expected.why), text)
            return "invalid"
        self.assertEqual(program_text(read_program(text)), text)
        self.assertEqual(read_program(text), Program(kinds))
        return "program"

    def test_bent_texts(self):
        seen = {}
        for text in ("a: own", "a: read x\nb: take m; give m", "a: choose (read x | own); repeat (add y; own)",
                     "a: repeat (choose (own | write xy | own))\nb: own", "loop: repeat (take m; read x; give m); own"):
            self.assertEqual(self.check(text), "program")
            for other in bent(text):
                word = self.check(other)
                seen[word] = seen.get(word, 0) + 1
        self.assertGreater(min(seen.values()), 50)
        self.assertEqual(len(seen), 3)

    def test_twice_bent_texts(self):
        rng = random.Random(81)
        seen = {}
        for program in some_programs():
            text = program_text(program)
            for _ in range(60):
                other = text
                for _ in range(2):
                    at = rng.randrange(len(other) + 1)
                    other = other[:at] + rng.choice(["", "; own", "own", " ", ")", "(", "\n", "a", " | ", "; "]) \
                        + other[at + rng.randrange(2):]
                word = self.check(other)
                seen[word] = seen.get(word, 0) + 1
        self.assertEqual(len(seen), 3)

    def test_bad_lines(self):
        for line in ("", " ", "a", "a:", "a: ", "a:own", ": own", "A: own", "longnames: own", "a : own", " a: own",
                     "a: own ", "a: own;", "a: own; ", "a: own;own", "a: own ; own", "a: own;  own", "a: Own",
                     "a: owns",
                     "a: own x", "a: read", "a: read ", "a: read  x", "a: read X", "a: read longnames", "a: read x y",
                     "a: choose (own)", "a: choose (own | own | own | own)", "a: choose own | own", "a: choose()",
                     "a: choose (own|own)", "a: choose (own | own", "a: choose (own | own))", "a: choose ( own | own)",
                     "a: choose (own |  own)", "a: choose (own | )", "a: repeat (own | own)", "a: repeat ()",
                     "a: repeat own",
                     "a: repeat(own)", "a: repeat (own) own", "a: repeats (own)", "a: (own)", "a: own | own", "a: 1",
                     "a: read x1", "a: own\t", "a:  own", "a: choose", "a: repeat", "a: repeat (",
                     "a: choose (own | own)|"):
            self.assertIsNone(slow_kind(line), line)
            for text, number in ((line, 1), ("a: own\n" + line, 2), ("a: own\nb: repeat (repeat (own))\n" + line, 3),
                                 (line + "\nb: own\n" + line, 1)):
                error = catch(read_program, text)
                self.assertEqual((error.__class__, error.line), (BadText, number), text)

    def test_empty_lines(self):
        for text, number in (("", 1), ("\n", 1), ("a: own\n", 2), ("a: own\n\nb: own", 2), ("\na: own", 1)):
            error = catch(read_program, text)
            self.assertEqual((error.__class__, error.line), (BadText, number))

    def test_long_lines(self):
        for many in (399, 400, 401, 402):
            line = "a: " + "; ".join(["own"] * 78)
            line += "; read " + "x" * (many - len(line) - 7)
            self.assertEqual(len(line), many)
            error = catch(read_program, "b: own\n" + line)
            if many > 400:
                self.assertEqual((error.__class__, error.line), (BadText, 2))
            else:
                self.assertEqual((error.__class__, error.index, error.why), (InvalidProgram, 1, "form"))

    def test_deep_rows_and_repeats_within_repeats(self):
        for line in ("a: repeat (repeat (own))", "a: repeat (choose (own | repeat (own)))",
                     "a: choose (choose (choose (own | own) | own) | own)", "a: own" + "; own" * 12,
                     "a: " + "repeat (" * 40 + "own" + ")" * 40, "a: " + "choose (own | " * 26 + "own" + ")" * 26):
            self.assertLessEqual(len(line), 400)
            error = catch(read_program, line)
            self.assertEqual((error.__class__, error.index, error.why), (InvalidProgram, 0, "form"))
            self.assertEqual(catch(read_program, line + "\nb").line, 2)

    def test_invalid_programs(self):
        for text, index, why in (("a: own\na: own", 1, "name"), ("a: take m", 0, "lock"),
                                 ("a: own\nb: give m", 1, "lock"),
                                 ("a: read m; take m; give m", None, "mixed"),
                                 ("a: read u; read v; read w; read x; read y", None, "many"),
                                 ("\n".join(f"{kind}: own" for kind in "abcde"), None, "form")):
            error = catch(read_program, text)
            self.assertEqual((error.__class__, error.index, error.why), (InvalidProgram, index, why))


class StretchTextTest(unittest.TestCase):
    def test_there_and_back(self):
        for program in some_programs():
            for kind in program.kinds:
                for stretch in all_stretches(program, kind):
                    text = stretch_text(stretch=stretch)
                    path = "/".join(f"{index}.{at}" for index, at in stretch.path) or "top"
                    self.assertEqual(text, f"{kind} {path} {stretch.begin}-{stretch.end}")
                    found = read_stretch(text=text, program=program)
                    self.assertEqual(found, stretch)
                    self.assertIs(found.program, program)

    def check(self, program, text):
        found = catch(read_stretch, program, text)
        if not STRETCH.fullmatch(text):
            self.assertEqual((found.__class__, found.line), (BadText, 1), text)
            return "bad"
        kind, path, bounds = text.split(" ")
        pairs = ()
        if path != "top":
            pairs = tuple(tuple(int(number) for number in pair.split(".")) for pair in path.split("/"))
        begin, end = (int(number) for number in bounds.split("-"))
        expected = catch(Stretch, program, kind, pairs, begin, end)
        if expected is None:
            self.assertEqual(stretch_text(read_stretch(program, text)), text)
            return "stretch"
        self.assertIs(found.__class__, expected.__class__, text)
        if found.__class__ is InvalidStretch:
            self.assertEqual((found.path, found.begin, found.end), (pairs, begin, end))
        else:
            self.assertEqual((found.__class__, found.kind), (UnknownKind, kind))
        return found.__class__.__name__

    def test_bent_texts(self):
        program = Program([LOOP, MAZE])
        seen = {}
        for text in ("loop top 0-1", "loop 0.0 1-3", "maze 2.0/0.1 0-2", "maze top 0-3", "maze 1.1 0-3"):
            self.assertEqual(self.check(program, text), "stretch")
            for other in bent(text):
                word = self.check(program, other)
                seen[word] = seen.get(word, 0) + 1
        self.assertEqual(set(seen), {"bad", "stretch", "InvalidStretch", "UnknownKind"})

    def test_other_forms(self):
        program = Program([LOOP])
        for text in ("", " ", "loop", "loop top", "loop top 0-1 ", " loop top 0-1", "loop  top 0-1", "loop top 0-1-2",
                     "loop top 00-1", "loop top 0-01", "loop top 0-100", "loop top -1", "loop top 0-", "loop top 0 - 1",
                     "loop 0.0/ 0-1", "loop /0.0 0-1", "loop 0.0.0 0-1", "loop 0 0-1", "loop 00.0 0-1", "loop 0.00 0-1",
                     "loop 0.100 0-1", "loop top/0.0 0-1", "loop  0-1", "Loop top 0-1", "longnames top 0-1",
                     "loop top 0-1\n", "loop top 0-1 x", "loop Top 0-1", "loop top +0-1", "loop 0,0 0-1", " top 0-1",
                     "loop top 0.1", "loop 0-0 0-1"):
            self.assertEqual(self.check(program, text), "bad")

    def test_errors_of_stretches(self):
        program = Program([LOOP])
        for text in ("loop top 0-3", "loop top 1-1", "loop top 99-99", "loop 1.0 0-1", "loop 0.1 0-1",
                     "loop 0.0/0.0 0-1",
                     "loop 99.99 0-1", "loop 0.0 3-4", "loop " + "/".join(["0.0"] * 30) + " 0-1"):
            self.assertEqual(self.check(program, text), "InvalidStretch")
        for text in ("top top 0-1", "none 9.9 5-1", "a top 0-1"):
            self.assertEqual(self.check(program, text), "UnknownKind")


class RunTextTest(unittest.TestCase):
    def test_there_and_back(self):
        rng = random.Random(82)
        for program in some_programs():
            for length in (0, 1, 5, 40):
                run = Run(program, [rng.choice(program.kinds) for _ in range(rng.randint(1, 12))])
                while len(run) < length and run.next_events():
                    run = run.then(rng.choice(run.next_events()))
                text = run_text(run=run)
                events = " ".join(f"{thread}.{number}" for thread, number in run.events) or "none"
                self.assertEqual(text, " ".join(run.threads) + "\n" + events)
                self.assertEqual(read_run(text=text, program=program), run)

    def check(self, program, text):
        found = catch(read_run, program, text)
        lines = text.split("\n")
        if not NAMES.fullmatch(lines[0]):
            line = 1
        elif len(lines) == 1 or not EVENTS.fullmatch(lines[1]):
            line = 2
        else:
            line = 3 if len(lines) > 2 else None
        if line is not None:
            self.assertEqual((found.__class__, found.line), (BadText, line), text)
            return line
        events = [] if lines[1] == "none" else [tuple(int(number) for number in event.split("."))
                                                for event in lines[1].split(" ")]
        expected = catch(Run, program, lines[0].split(" "), events)
        self.assertIs(found.__class__, expected.__class__, text)
        if expected is None:
            self.assertEqual(run_text(read_run(program, text)), text)
            return "run"
        if found.__class__ is InvalidThreads:
            self.assertEqual(found.index, expected.index)
        else:
            self.assertEqual((found.__class__, found.event), (NotPossible, expected.event))
        return found.__class__.__name__

    def test_bent_texts(self):
        program = Program([LOOP, MAZE, ("none", (OWN,))])
        seen = {}
        for text in ("loop loop\n0.0 0.1 1.3", "maze\nnone", "loop maze\n1.0 0.0 1.0 1.5", "none\n0.0"):
            self.assertEqual(self.check(program, text), "run")
            for other in bent(text):
                word = self.check(program, other)
                seen[word] = seen.get(word, 0) + 1
        self.assertEqual(set(seen), {1, 2, 3, "run", "InvalidThreads", "NotPossible"})

    def test_lines(self):
        program = Program([LOOP])
        for text, line in (("", 1), ("loop", 2), ("loop\n", 2), ("\nnone", 1), ("loop\nnone\n", 3),
                           ("loop\nnone\nnone", 3),
                           ("loop \nnone", 1), ("loop  loop\nnone", 1), ("loop\n ", 2), ("loop\n0.0 ", 2),
                           ("loop\n 0.0", 2),
                           ("loop\n0.0  0.1", 2), ("loop\n00.0", 2), ("loop\n0.00", 2), ("loop\n0.100", 2),
                           ("loop\n0", 2),
                           ("loop\n0.0.0", 2), ("loop\nnone none", 2), ("loop\nNone", 2), ("Loop\nx\n\n", 1),
                           ("loop\nx\n\n", 2), ("loop\nnone\n\n", 3), ("loop,loop\nnone", 1), ("loop\n0,0", 2)):
            self.assertEqual(self.check(program, text), line, text)

    def test_errors_of_runs(self):
        program = Program([LOOP])
        for text, word in (("loop x\nnone", "InvalidThreads"), (" ".join(["loop"] * 13) + "\nnone", "InvalidThreads"),
                           ("x\n0.9", "InvalidThreads"), ("loop\n0.9", "NotPossible"), ("loop\n1.0", "NotPossible"),
                           ("loop loop\n0.0 1.0", "NotPossible"), ("loop\n99.99", "NotPossible"),
                           ("loop\n" + " ".join(["0.0 0.1 0.2"] * 134), "NotPossible")):
            self.assertEqual(self.check(program, text), word)
        self.assertEqual(self.check(program, "loop\n" + " ".join(["0.0 0.1 0.2"] * 133)), "run")


class TableTest(unittest.TestCase):
    def test_all_steps(self):
        programs = [*some_programs(),
                    Program([("a", (("take", "m"), ("take", "b"), ("write", "abcdefgh"), ("give", "b"),
                                                      ("give", "m"), *[OWN] * 6, ("read", "ab")))])]
        for program in programs:
            for kind in program.kinds:
                row = program.row(kind)
                expected = []
                for number, step in enumerate(flat(row)):
                    locks = ",".join(sorted(holding(row)[number])) or "-"
                    touched = step[1] if len(step) == 2 else "-"
                    word = slow_motion(program, kind, number)
                    expected.append(f"{number:>2} {step[0]:<5} {touched:<8} {word:<7} {locks}")
                self.assertEqual(steps_table(program, kind), expected)

    def test_examples(self):
        self.assertEqual(steps_table(Program([LOOP]), "loop"),
                         [" 0 take  m        later   m", " 1 read  x        free    m",
                          " 2 give  m        earlier -", " 3 own   -        free    -"])
        three = [("take", "c"), ("take", "b"), ("take", "a"), ("write", "abcdefgh"),
                 ("give", "a"), ("give", "b"), ("give", "c")]
        lines = steps_table(kind="a", program=Program([("a", (*[OWN] * 5, *three))]))
        self.assertEqual(lines[4:9], [" 4 own   -        free    -", " 5 take  c        later   c",
                                      " 6 take  b        later   b,c", " 7 take  a        later   a,b,c",
                                      " 8 write abcdefgh free    a,b,c"])
        self.assertEqual(lines[10], "10 give  b        earlier c")
        self.assertEqual(steps_table(Program([("a", (("write", "x"),))]), "a"), [" 0 write x        fixed   -"])

    def test_unknown_kind(self):
        for value in [*odd_values(), 0, "x", "m"]:
            error = catch(steps_table, Program([LOOP]), value)
            self.assertIs(error.__class__, UnknownKind)
            self.assertIs(error.kind, value)

    def test_results_are_new(self):
        program = Program([LOOP])
        steps_table(program, "loop").clear()
        self.assertEqual(len(steps_table(program, "loop")), 4)
