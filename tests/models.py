"""What several tests share: odd values, small programs, and slow second answers made from the definitions."""

import random

from unbrokenruns.programs import Program

LOOP = ("loop", (("repeat", (("take", "m"), ("read", "x"), ("give", "m"))), ("own",)))

# A repeat that may be passed by, a choose of which one row is such a repeat, and a choose within a repeat.
MAZE = ("maze", (
    ("repeat", (("add", "x"),)),
    ("choose", (("repeat", (("read", "x"),)),), (("take", "m"), ("own",), ("give", "m"))),
    ("repeat", (("choose", (("own",),), (("write", "y"), ("own",))), ("choose", (("own",),), (("own",),)))),
))

OPEN = ("open", (("repeat", (("own",),)), ("repeat", (("own",), ("read", "x")))))

NESTED = ("nested", (
    ("take", "m"),
    ("choose", (("choose", (("take", "n"), ("own",), ("give", "n")), (("write", "x"),)), ("own",)), (("own",),)),
    ("repeat", (("take", "n"), ("take", "b"), ("give", "b"), ("give", "n"))),
    ("give", "m"),
))


class Thing:
    """A value that nothing else is equal to."""


def odd_values():
    """Values of all sorts, of which none is a name of one to eight letters, an integer or a valid tuple."""
    return [True, False, None, "", " ", "A", "a b", "longnames", "\n", b"x", b"", [], [0], [()], ["x"], {}, {"x": 1},
            {"x"}, set(), (), ((),), (None,), (True,), ([],), ("",), Thing(), Thing, len, [[], []],
            Program([LOOP]), ValueError("x"), range(3), iter([1])]


def size(row):
    """The number of the steps in neighbouring items."""
    many = 0
    for item in row:
        inners = item[1:] if item[0] in ("choose", "repeat") else None
        many += 1 if inners is None else sum(size(inner) for inner in inners)
    return many


def item_traces(item, first, rounds):
    if item[0] == "choose":
        found = []
        for inner in item[1:]:
            found.extend(traces(inner, first, rounds))
            first += size(inner)
        return found
    if item[0] == "repeat":
        once = traces(item[1], first, rounds)
        found = [[]]
        latest = [[]]
        for _ in range(rounds):
            latest = [before + ([(turn[0][0], True)] + turn[1:] if before else turn)
                      for before in latest for turn in once]
            found.extend(latest)
        return found
    return [[(first, False)]]


def traces(row, first, rounds):
    """All ways from the beginning to the end of a row, through each repeat at most so many times.

    A way is a list of tuples (step, around): around tells whether the thread has gone around directly before.
    """
    if not row:
        return [[]]
    heads = item_traces(row[0], first, rounds)
    tails = traces(row[1:], first + size(row[:1]), rounds)
    return [head + tail for head in heads for tail in tails]


def row_tree(row, path=(), first=0):
    """A list of tuples (path, row, list with, for each item, its first step and the first one behind it)."""
    here = []
    found = [(path, row, here)]
    for index, item in enumerate(row):
        here.append((first, first + size((item,))))
        inners = item[1:] if item[0] in ("choose", "repeat") else ()
        for at, inner in enumerate(inners):
            found.extend(row_tree(inner, path + ((index, at),), first))
            first += size(inner)
        if not inners:
            first += 1
    return found


def chunk(rng, depth, repeated, free):
    """Some neighbouring items, in which only the free locks are taken."""
    choice = rng.randrange(8)
    if choice == 0 and depth < 3:
        return [("choose", *[random_row(rng, depth + 1, repeated, free) for _ in range(rng.choice([2, 2, 3]))])]
    if choice in (1, 2) and depth < 3 and not repeated:
        return [("repeat", random_row(rng, depth + 1, True, free))]
    if choice == 3 and free:
        lock = rng.choice(free)
        inner = [name for name in free if name != lock]
        return [("take", lock), *random_row(rng, depth, repeated, inner), ("give", lock)]
    if choice == 4:
        return [("own",)]
    return [(rng.choice(["read", "write", "add"]), rng.choice(["x", "y", "z"]))]


def random_row(rng, depth, repeated, free):
    items = []
    for _ in range(rng.choice([1, 1, 2, 2, 3])):
        items.extend(chunk(rng, depth, repeated, free))
    return tuple(items)


def random_rows(many, seed, most=12):
    """A list of different valid rows of at most so many steps, always the same ones."""
    rng = random.Random(seed)
    found = {}
    while len(found) < many:
        row = random_row(rng, 1, False, ["m", "l", "k"])
        if size(row) <= most:
            found[row] = True
    return list(found)


def catch(call, *values, **named):
    """The error of the package, or of Python, that a call raises; None if there is none."""
    try:
        call(*values, **named)
    except Exception as error:
        return error
    return None
