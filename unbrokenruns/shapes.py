"""Rows: the forms of [4] and [5], their steps, and the ways of a thread through them."""

LETTERS = "abcdefghijklmnopqrstuvwxyz"
MAX_LETTERS = 8
MAX_DEPTH = 3
MAX_STEPS = 12
VARIABLE_WORDS = ("read", "write", "add")
LOCK_WORDS = ("take", "give")


def is_integer(value):
    """Whether any value is an integer, which True and False are not."""
    return isinstance(value, int) and not isinstance(value, bool)


def is_name(value):
    """Whether any value is a name."""
    if not isinstance(value, str) or not 1 <= len(value) <= MAX_LETTERS:
        return False
    return all([letter in LETTERS for letter in value])


def is_step(value):
    """Whether any value is a step."""
    if not isinstance(value, tuple):
        return False
    if len(value) == 1:
        return value[0] == "own"
    return len(value) == 2 and value[0] in VARIABLE_WORDS + LOCK_WORDS and is_name(value[1])


def is_item(value, depth, repeated):
    """Whether any value is an item of a row at a depth; repeated tells whether this row is within a repeat."""
    if is_step(value):
        return True
    if not isinstance(value, tuple) or len(value) == 0:
        return False
    if value[0] == "choose":
        fits = len(value) in (3, 4)
    else:
        fits = value[0] == "repeat" and len(value) == 2 and not repeated
    below = repeated or value[0] == "repeat"
    return fits and all([is_row(inner, depth + 1, below) for inner in value[1:]])


def is_row(value, depth, repeated):
    """Whether any value is a row at a depth, apart from the rules for locks."""
    if not isinstance(value, tuple) or len(value) == 0 or depth > MAX_DEPTH:
        return False
    return all([is_item(item, depth, repeated) for item in value])


def is_kind(value):
    """Whether any value is a kind, apart from the rules for locks."""
    if not isinstance(value, tuple) or len(value) != 2:
        return False
    name, row = value
    return is_name(name) and is_row(row, 1, False) and len(row_steps(row)) <= MAX_STEPS


def inner_rows(item):
    """The rows of a choose or a repeat; a step has none."""
    return item[1:] if item[0] in ("choose", "repeat") else ()


def row_steps(row):
    """The list of the steps of neighbouring items, in the order in which they are written."""
    found = []
    for item in row:
        inners = inner_rows(item)
        for inner in inners:
            found.extend(row_steps(inner))
        if not inners:
            found.append(item)
    return found


def refilled(row, steps):
    """The row in which these steps, in the order in which they are written, stand instead of its own ones."""
    found = []
    first = 0
    for item in row:
        inners = []
        for inner in inner_rows(item):
            behind = first + len(row_steps(inner))
            inners.append(refilled(inner, steps[first:behind]))
            first = behind
        if inners:
            found.append((item[0], *inners))
        else:
            found.append(steps[first])
            first += 1
    return tuple(found)


def index_sets(many):
    """The list of all sets of numbers below many, as ascending tuples: smaller ones first, then in ascending order."""
    latest = [()]
    found = []
    while latest:
        found.extend(latest)
        latest = [(*chosen, at) for chosen in latest for at in range(chosen[-1] + 1 if chosen else 0, many)]
    return found


def locks_nest(row, outer):
    """Whether a row, in which the locks of the tuple outer are held, keeps the rules for locks."""
    taken = []
    for item in row:
        if item[0] == "take":
            if item[1] in outer or item[1] in taken:
                return False
            taken.append(item[1])
        elif item[0] == "give":
            if not taken or taken.pop() != item[1]:
                return False
        elif not all([locks_nest(inner, (*outer, *taken)) for inner in inner_rows(item)]):
            return False
    return not taken


def row_holds(row, outer):
    """The list of the ascending tuples of the locks that are held at the steps of a row."""
    taken = list(outer)
    found = []
    for item in row:
        inners = inner_rows(item)
        for inner in inners:
            found.extend(row_holds(inner, taken))
        if item[0] == "take":
            taken.append(item[1])
        elif item[0] == "give":
            taken.remove(item[1])
        if not inners:
            found.append(tuple(sorted(taken, key=str)))
    return found


def row_loops(row, first, loop):
    """The list with, for each step of a row, the first step of the repeat that contains it, or None.

    The steps of the row are numbered from first on; loop is what holds for the row itself.
    """
    found = []
    for item in row:
        below = first + len(found) if item[0] == "repeat" else loop
        inners = inner_rows(item)
        for inner in inners:
            found.extend(row_loops(inner, first + len(found), below))
        if not inners:
            found.append(loop)
    return found


def link(nexts, lasts, firsts, around):
    """Lets each of the first steps come next behind each of the last ones."""
    for place in lasts:
        nexts[place + 1].extend([(step, around) for step in firsts])


def link_item(item, nexts):
    """Does what link_row does, for an item."""
    if item[0] == "repeat":
        firsts, lasts, _ = link_row(item[1], nexts)
        link(nexts, lasts, firsts, True)
        return firsts, lasts, True
    if item[0] == "choose":
        firsts, lasts, passable = [], [], False
        for inner in inner_rows(item):
            inner_firsts, inner_lasts, inner_passable = link_row(inner, nexts)
            firsts.extend(inner_firsts)
            lasts.extend(inner_lasts)
            passable = passable or inner_passable
        return firsts, lasts, passable
    number = len(nexts) - 1
    nexts.append([])
    return [number], [number], False


def link_row(row, nexts):
    """Adds the steps of a row to the list nexts, and the links between them.

    Returns the lists of the steps with which a thread may begin and end the row, and whether it may
    go through the row without a step. The links of a place come in ascending order: nothing within a
    repeat can be passed by, so a thread that may go around has no other way within the row.
    """
    firsts, lasts, passable = [], [], True
    for item in row:
        item_firsts, item_lasts, item_passable = link_item(item, nexts)
        link(nexts, lasts, item_firsts, False)
        if passable:
            firsts = firsts + item_firsts
        lasts = lasts + item_lasts if item_passable else item_lasts
        passable = passable and item_passable
    return firsts, lasts, passable


class Ways:
    """The ways of a thread through the row of a kind. What belongs to a place stands at place + 1."""

    def __init__(self, row):
        nexts = [[]]
        link(nexts, [-1], link_row(row, nexts)[0], False)
        self.body = row
        self.sequence = tuple(row_steps(row))
        self.nexts = tuple([tuple(following) for following in nexts])
        self.holds = ((), *row_holds(row, ()))
        self.loops = tuple(row_loops(row, 0, None))
