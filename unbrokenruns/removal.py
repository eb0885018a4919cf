"""Locks left out of a program."""

from unbrokenruns.errors import UnknownName
from unbrokenruns.programs import with_steps
from unbrokenruns.shapes import LOCK_WORDS, index_sets
from unbrokenruns.tables import is_unbroken


def without_locks(program, locks):
    """The program in which all steps on some locks are replaced by own."""
    known = program.locks
    for name in locks:
        if name not in known:
            raise UnknownName(name)
    table = {kind: [("own",) if step[0] in LOCK_WORDS and step[1] in locks else step for step in program.steps(kind)]
             for kind in program.kinds}
    return with_steps(program, table)


def breaks(program, locks, stretches):
    """The list of those stretches that are broken in the program without some locks."""
    thinned = without_locks(program, locks)
    return [stretch for stretch in stretches if not is_unbroken(stretch.of(thinned))]


def removals(program, stretches):
    """Yields, for each set of locks, the tuple of the locks and of the list of the stretches that are broken then."""
    known = program.locks
    wished = list(stretches)
    for chosen in index_sets(len(known)):
        locks = tuple([known[at] for at in chosen])
        yield (locks, breaks(program, locks, wished))


def largest_removals(program, stretches):
    """The list of the sets of locks that can be left out and are not a part of a greater one."""
    found = [locks for locks, broken in removals(program, stretches) if not broken]
    return [inner for inner in found if not any([is_part(inner, outer) for outer in found])]


def is_part(inner, outer):
    """Whether a tuple of locks is a part of a greater one."""
    return len(inner) < len(outer) and all([name in outer for name in inner])
