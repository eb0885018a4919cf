"""A console that answers lines of text."""

from unbrokenruns.desk import Desk
from unbrokenruns.errors import RunsError, UnknownKind
from unbrokenruns.movers import LatePaper
from unbrokenruns.pairs import largest_unbroken
from unbrokenruns.stuck import sticking_run
from unbrokenruns.texts import program_text, read_number, read_stretch, run_text, steps_table, stretch_text

STRETCH_WORDS = ("ask", "known", "late")
NUMBER_WORDS = ("strengthen", "silence")
# For each other first word, the number of the parts of a line.
PART_COUNTS = {"show": 1, "steps": 2, "largest": 2, "stuck": 1, "drop": 2, "merge": 3, "strengthen": 3, "silence": 3,
               "undo": 1}


def verdict_word(verdict):
    """The word for what a desk tells of a stretch."""
    if verdict is None:
        return "unknown"
    return "unbroken" if verdict else "broken"


def late_line(stretch):
    """The line for the least late paper of a stretch."""
    paper = LatePaper.least(stretch)
    return "none" if paper is None else " ".join(["late", *[str(number) for number in paper.late]])


def stuck_lines(program):
    """The lines that tell whether a program sticks."""
    run = sticking_run(program)
    return ["calm"] if run is None else run_text(run).split("\n")


class Console:
    """Answers lines of text with lists of lines."""

    def __init__(self, program):
        self.desk = Desk(program)

    def __call__(self, line):
        word, _, rest = line.partition(" ")
        parts = line.split(" ")
        try:
            if word in STRETCH_WORDS:
                return [self._of_stretch(word, read_stretch(self.desk.now, rest))]
            if PART_COUNTS.get(word) != len(parts):
                return ["unknown command"]
            return self._of_parts(parts)
        except (RunsError, UnknownKind):
            return ["refused"]

    def _of_stretch(self, word, stretch):
        """The answer to a question about a stretch."""
        if word == "ask":
            return verdict_word(self.desk.answer(stretch))
        return verdict_word(self.desk.known(stretch)) if word == "known" else late_line(stretch)

    def _of_parts(self, parts):
        """The answer to a line with as many parts as its first word asks for."""
        program = self.desk.now
        if parts[0] == "show":
            return program_text(program).split("\n")
        if parts[0] == "steps":
            return steps_table(program, parts[1])
        if parts[0] == "largest":
            return [stretch_text(stretch) for stretch in largest_unbroken(program, parts[1])]
        if parts[0] == "stuck":
            return stuck_lines(program)
        # A part that is no number becomes None, which is the number of no step.
        edit = (*parts[:2], read_number(parts[2])) if parts[0] in NUMBER_WORDS else tuple(parts)
        self.desk.apply(edit)
        return [f"done {self.desk.undoable}"]
