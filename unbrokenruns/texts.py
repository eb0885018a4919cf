"""Programs, stretches and runs as texts."""

from unbrokenruns.errors import BadText
from unbrokenruns.movers import motion
from unbrokenruns.places import held
from unbrokenruns.programs import Program
from unbrokenruns.runs import Run
from unbrokenruns.shapes import LETTERS, LOCK_WORDS, VARIABLE_WORDS, inner_rows, is_name
from unbrokenruns.stretches import Stretch

MAX_LINE = 400
DIGITS = "0123456789"
# For each word of an item with rows, how many rows it may have.
ROW_COUNTS = {"choose": (2, 3), "repeat": (1,)}


def item_text(item):
    """The text of an item."""
    inners = inner_rows(item)
    if not inners:
        return " ".join(item)
    inside = " | ".join([row_text(inner) for inner in inners])
    return f"{item[0]} ({inside})"


def row_text(row):
    """The text of a row."""
    return "; ".join([item_text(item) for item in row])


def program_text(program):
    """The text of a program."""
    return "\n".join([f"{kind}: {row_text(program.row(kind))}" for kind in program.kinds])


def word_end(text, at):
    """The position behind the letters that stand from a position on."""
    while at < len(text) and text[at] in LETTERS:
        at += 1
    return at


def read_step(text, at):
    """The tuple (step, position behind it) of the step whose text stands at a position; None if there is none."""
    end = word_end(text, at)
    word = text[at:end]
    if word == "own":
        return (("own",), end)
    if word not in VARIABLE_WORDS + LOCK_WORDS or text[end:end + 1] != " ":
        return None
    behind = word_end(text, end + 1)
    name = text[end + 1:behind]
    return ((word, name), behind) if is_name(name) else None


def read_inner_rows(text, at):
    """The tuple (list of rows, position behind them) of the rows up to a closing bracket; None if there are none."""
    found = []
    while True:
        row = read_row(text, at)
        if row is None:
            return None
        found.append(row[0])
        at = row[1]
        if text[at:at + 1] == ")":
            return (found, at + 1)
        if text[at:at + 3] != " | ":
            return None
        at += 3


def read_item(text, at):
    """The tuple (item, position behind it) of the item whose text stands at a position; None if there is none."""
    end = word_end(text, at)
    word = text[at:end]
    if word not in ROW_COUNTS:
        return read_step(text, at)
    if text[end:end + 2] != " (":
        return None
    inside = read_inner_rows(text, end + 2)
    if inside is None or len(inside[0]) not in ROW_COUNTS[word]:
        return None
    return ((word, *inside[0]), inside[1])


def read_row(text, at):
    """The tuple (row, position behind it) of the row whose text stands at a position; None if there is none."""
    found = []
    while True:
        item = read_item(text, at)
        if item is None:
            return None
        found.append(item[0])
        at = item[1]
        if text[at:at + 2] != "; ":
            return (tuple(found), at)
        at += 2


def read_kind(line):
    """The kind whose text a line is; None if it is none. Its rows may have any depth."""
    end = word_end(line, 0)
    if len(line) > MAX_LINE or not is_name(line[:end]) or line[end:end + 2] != ": ":
        return None
    row = read_row(line, end + 2)
    return (line[:end], row[0]) if row is not None and row[1] == len(line) else None


def read_program(text):
    """The program with a text."""
    kinds = []
    for number, line in enumerate(text.split("\n"), start=1):
        kind = read_kind(line)
        if kind is None:
            raise BadText(number)
        kinds.append(kind)
    return Program(kinds)


def read_number(text):
    """The number with a text of one or two digits; None if the text has another form."""
    if not 1 <= len(text) <= 2 or not all([letter in DIGITS for letter in text]):
        return None
    return None if len(text) == 2 and text[0] == "0" else int(text)


def read_pair(text, mark):
    """The tuple of two numbers that are joined by a mark; None if the text has another form."""
    numbers = [read_number(part) for part in text.split(mark)]
    return tuple(numbers) if len(numbers) == 2 and None not in numbers else None


def read_pairs(text, mark, separator):
    """The list of the pairs that are joined by a separator; None if the text has another form."""
    pairs = [read_pair(part, mark) for part in text.split(separator)]
    return None if None in pairs else pairs


def stretch_text(stretch):
    """The text of a stretch."""
    path = "/".join([f"{index}.{at}" for index, at in stretch.path]) if stretch.path else "top"
    return f"{stretch.kind} {path} {stretch.begin}-{stretch.end}"


def read_stretch(program, text):
    """The stretch of a program with a text."""
    parts = text.split(" ")
    if len(parts) != 3 or not is_name(parts[0]):
        raise BadText(1)
    path = [] if parts[1] == "top" else read_pairs(parts[1], ".", "/")
    bounds = read_pair(parts[2], "-")
    if path is None or bounds is None:
        raise BadText(1)
    return Stretch(program, parts[0], tuple(path), bounds[0], bounds[1])


def run_text(run):
    """The text of a run."""
    kinds = " ".join(run.threads)
    events = " ".join([f"{thread}.{number}" for thread, number in run.events])
    return f"{kinds}\n{events}" if events else f"{kinds}\nnone"


def read_run(program, text):
    """The run of a program with a text."""
    lines = text.split("\n")
    threads = lines[0].split(" ")
    if not all([is_name(kind) for kind in threads]):
        raise BadText(1)
    if len(lines) == 1:
        raise BadText(2)
    events = [] if lines[1] == "none" else read_pairs(lines[1], ".", " ")
    if events is None:
        raise BadText(2)
    if len(lines) > 2:
        raise BadText(3)
    return Run(program, threads, events)


def table_line(program, kind, number):
    """The line of a step in the table of the steps."""
    step = program.steps(kind)[number]
    touched = step[1] if len(step) == 2 else "-"
    locks = ",".join(held(program, kind, number)) or "-"
    parts = [str(number).rjust(2), step[0].ljust(5), touched.ljust(8), motion(program, kind, number).ljust(7), locks]
    return " ".join(parts)


def steps_table(program, kind):
    """The list of lines, one for each step of a kind."""
    return [table_line(program, kind, number) for number in range(len(program.steps(kind)))]
