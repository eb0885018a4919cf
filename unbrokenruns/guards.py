"""New locks: guards, which are stretches around which a new lock is taken and given."""

from unbrokenruns.errors import InvalidProgram, NameTaken, NotBalanced, OverlappingStretches, TooMany
from unbrokenruns.programs import Program
from unbrokenruns.shapes import index_sets, inner_rows
from unbrokenruns.stretches import Stretch, row_at
from unbrokenruns.stuck import sticking_run
from unbrokenruns.tables import is_unbroken
from unbrokenruns.together import check_apart

MOST_CHOICES = 5


def is_balanced(stretch):
    """Whether what the items of a stretch take and give of the locks is in balance."""
    row = row_at(stretch.program.row(stretch.kind), stretch.path)
    taken = []
    for item in row[stretch.begin:stretch.end]:
        if item[0] == "take":
            taken.append(item[1])
        elif item[0] == "give":
            if item[1] not in taken:
                return False
            taken.remove(item[1])
    return not taken


def check_balance(program, guards, lock):
    """Raises NameTaken for a lock that is no new name, and NotBalanced for the first guard that is not balanced."""
    if lock in program.variables or lock in program.locks:
        raise NameTaken(lock)
    for index, guard in enumerate(guards):
        if not is_balanced(guard):
            raise NotBalanced(index)


def guarded_row(row, path, guards, lock):
    """The row at a path of a kind, with these guards of the kind."""
    begins = [guard.begin for guard in guards if guard.path == path]
    ends = [guard.end for guard in guards if guard.path == path]
    found = []
    for index, item in enumerate(row):
        if index in begins:
            found.append(("take", lock))
        inners = [guarded_row(inner, (*path, (index, at)), guards, lock) for at, inner in enumerate(inner_rows(item))]
        found.append((item[0], *inners) if inners else item)
        if index + 1 in ends:
            found.append(("give", lock))
    return tuple(found)


def guarded(program, guards, *, lock):
    """The program with guards of a new lock."""
    check_balance(program, guards, lock)
    check_apart(guards)
    return Program([(kind, guarded_row(program.row(kind), (), [guard for guard in guards if guard.kind == kind], lock))
                    for kind in program.kinds])


def new_index(guards, path, index):
    """The index in the guarded program of an item of the row at a path, with these guards of its kind."""
    here = [guard for guard in guards if guard.path == path]
    return index + sum([(guard.begin <= index) + (guard.end <= index) for guard in here])


def moved(program, guards, stretch):
    """The stretch of a guarded program from the first to the last item of a stretch."""
    own = [guard for guard in guards if guard.kind == stretch.kind]
    path = tuple([(new_index(own, stretch.path[:depth], index), at) for depth, (index, at) in enumerate(stretch.path)])
    begin = new_index(own, stretch.path, stretch.begin)
    end = new_index(own, stretch.path, stretch.end - 1) + 1
    return Stretch(program, stretch.kind, path, begin, end)


def carried(program, guards, stretch, *, lock):
    """The stretch of the guarded program from the first to the last item of a stretch."""
    return moved(guarded(program, guards, lock=lock), guards, stretch)


def first_fault(program, guards, wished):
    """What is wrong with a guarded program; None if nothing is."""
    for index, stretch in enumerate(wished):
        if not is_unbroken(moved(program, guards, stretch)):
            return ("broken", index)
    return None if sticking_run(program) is None else ("stuck",)


def fault(program, guards, wished, *, lock):
    """What is wrong with guards: the first wished stretch that is broken, or that threads are stuck; or None."""
    return first_fault(guarded(program, guards, lock=lock), guards, wished)


def cost(guards, *, step_cost=1, guard_cost=0):
    """What guards cost."""
    return step_cost * sum([len(guard) for guard in guards]) + guard_cost * len(guards)


def check_choices(program, choices, lock):
    """Raises the errors of tried_guards."""
    if len(choices) > MOST_CHOICES:
        raise TooMany("choices", len(choices))
    check_balance(program, choices, lock)


def priced(choices, step_cost, guard_cost):
    """The list of the tuples (cost, indices) of all sets of choices, in the order in which they are tried."""
    found = {}
    for indices in index_sets(len(choices)):
        total = cost([choices[at] for at in indices], step_cost=step_cost, guard_cost=guard_cost)
        found.setdefault(total, []).append(indices)
    return [(total, indices) for total in sorted(found, key=int) for indices in found[total]]


def guarded_if_possible(program, guards, lock):
    """The guarded program; None if the guards share a step or give no program."""
    try:
        return guarded(program, guards, lock=lock)
    except (OverlappingStretches, InvalidProgram):
        return None


def tried_guards(program, wished, choices, *, lock, step_cost=1, guard_cost=0):
    """Yields the tuple (cost, indices, fault) for sets of choices, the cheapest first, up to one without a fault."""
    wanted = list(wished)
    offered = list(choices)
    check_choices(program, offered, lock)
    for total, indices in priced(offered, step_cost, guard_cost):
        guards = [offered[at] for at in indices]
        trial = guarded_if_possible(program, guards, lock)
        if trial is not None:
            found = first_fault(trial, guards, wanted)
            yield (total, indices, found)
            if found is None:
                return


def cheapest(program, wished, choices, *, lock, step_cost=1, guard_cost=0):
    """The tuple (cost, list of the guards) for the first set of choices without a fault, or None."""
    tries = list(tried_guards(program, wished, choices, lock=lock, step_cost=step_cost, guard_cost=guard_cost))
    if not tries or tries[-1][2] is not None:
        return None
    total, indices, _ = tries[-1]
    return (total, [choices[at] for at in indices])
