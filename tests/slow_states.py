"""Slow second answers about stretches, made from the definitions [10] to [13] by trying everything."""

import itertools
import random

from unbrokenruns.programs import Program
from tests.models import random_row, size
from tests.slow import coming, flat, holding, in_conflict, repeat_of, repeats_around

WORDS = {True: ("read", "write", "add"), False: ("take", "give")}


def small_programs(many, seed, kinds, most, names=("x", "y"), locks=("m", "n")):
    """Some programs of up to so many kinds with up to so many steps, always the same ones."""
    rng = random.Random(seed)
    found = []
    while len(found) < many:
        listed = []
        for name in "abcd"[:rng.randint(1, kinds)]:
            row = random_row(rng, 1, False, list(locks))
            while size(row) > most:
                row = random_row(rng, 1, False, list(locks))
            listed.append((name, tuple(renamed(item, names) for item in row)))
        found.append(Program(listed))
    return found


def renamed(item, names):
    """An item in which all variables have one of the names."""
    if item[0] in ("choose", "repeat"):
        return (item[0], *[tuple(renamed(one, names) for one in inner) for inner in item[1:]])
    if item[0] in WORDS[True]:
        return (item[0], names["xyz".index(item[1]) % len(names)])
    return item


def locks_at(program, pair):
    return holding(program.row(pair[0]))[pair[1]]


def step_at(program, pair):
    return flat(program.row(pair[0]))[pair[1]] if pair[1] >= 0 else ("own",)


def goes_on(stretch, place, step):
    """Whether a step that comes next goes on with the pass of which the place is."""
    row = stretch.program.row(stretch.kind)
    around = coming(row)[place][step]
    return step in stretch.steps() and not (around and repeats_around(row, stretch.path))


def all_pairs(program):
    return [(kind, place) for kind in program.kinds for place in range(-1, len(program.steps(kind)))]


def all_carriers(program):
    """All carriers, also those that no state has."""
    objects = [(name, word) for name in program.variables for word in WORDS[True]]
    objects += [(name, word) for name in program.locks for word in WORDS[False]]
    found = [(form, *deed) for form in ("own", "object") for deed in objects]
    return [(), *found, *[("thread", *pair) for pair in all_pairs(program) if pair[1] != -1]]


def all_states(stretch):
    """All states of a stretch."""
    program = stretch.program
    holders = sorted(pair for pair in all_pairs(program) if locks_at(program, pair))
    found = []
    for place in range(-1, len(program.steps(stretch.kind))):
        for many in range(len(program.locks) + 1):
            for others in itertools.combinations(holders, many):
                held = [lock for pair in [(stretch.kind, place), *others] for lock in locks_at(program, pair)]
                if len(held) == len(set(held)):
                    found.extend((place, others, carrier) for carrier in all_carriers(program)
                                 if carrier_fits(stretch, place, others, carrier))
    return found


def carrier_fits(stretch, place, others, carrier):
    if carrier == ():
        return True
    if place not in stretch.steps():
        return False
    if carrier[0] == "thread" and locks_at(stretch.program, carrier[1:]):
        return carrier[1:] in others
    return True


def taken_up(carrier, step):
    return carrier[:1] in (("own",), ("object",)) and in_conflict((carrier[2], carrier[1]), step)


def slow_moves(stretch, state):
    """The sorted list of the states behind the moves, and whether a move breaks the pass, as [13] says it."""
    program = stretch.program
    place, others, carrier = state
    held = {lock for pair in [(stretch.kind, place), *others] for lock in locks_at(program, pair)}
    found = set()
    breaks = False

    def nexts(pair):
        """The tuples (kind, step) of the possible steps that may come next."""
        for step in coming(program.row(pair[0]))[pair[1]]:
            written = step_at(program, (pair[0], step))
            if written[0] != "take" or written[1] not in held:
                yield (pair[0], step), written

    def with_thread(crew, pair):
        return tuple(sorted([*crew, pair])) if locks_at(program, pair) else tuple(crew)

    for (_, step), written in nexts((stretch.kind, place)):
        if carrier == () or goes_on(stretch, place, step):
            found.add((step, others, carrier))
            if step in stretch.steps() and len(written) == 2:
                found.add((step, others, ("own", written[1], written[0])))
            if carrier[:1] == ("object",) and taken_up(carrier, written):
                breaks = True
    for other in others:
        rest = [pair for pair in others if pair != other]
        for pair, written in nexts(other):
            if carrier == ("thread", *other):
                found.add((place, with_thread(rest, pair), ("thread", *pair)))
            else:
                found.add((place, with_thread(rest, pair), carrier))
                if taken_up(carrier, written):
                    found.add((place, with_thread(rest, pair), ("thread", *pair)))
    if carrier[:1] == ("thread",):
        if not locks_at(program, carrier[1:]):
            for pair, _ in nexts(carrier[1:]):
                found.add((place, with_thread(others, pair), ("thread", *pair)))
        written = step_at(program, carrier[1:])
        if len(written) == 2:
            found.add((place, others, ("object", written[1], written[0])))
    for further in all_pairs(program):
        if not locks_at(program, further):
            for pair, written in nexts(further):
                if locks_at(program, pair):
                    found.add((place, with_thread(others, pair), carrier))
                if taken_up(carrier, written):
                    found.add((place, with_thread(others, pair), ("thread", *pair)))
    return sorted(found), breaks


def closure(stretch, states):
    """The set of some states and of all that moves lead to, and whether a move from one of them breaks the pass."""
    seen = set(states)
    waiting = list(seen)
    breaks = False
    while waiting:
        found, broken = slow_moves(stretch, waiting.pop())
        breaks = breaks or broken
        waiting.extend(set(found) - seen)
        seen.update(found)
    return seen, breaks


def crowd_hits(program, kind, others, watch):
    """All tuples (mark, step) of a watched thread of a kind that performs a step which hangs on one before it.

    There are so many other threads, of any kinds, and the chain goes through one of them. The function watch gets the
    mark of the watched thread, its place, the next step and whether it goes around. It returns tuples (mark, fresh):
    chains begin only at steps with a mark, and if fresh is True, at none before this step.
    """
    beginners = [(name, -1, False) for name in program.kinds]
    waiting = [(-1, None, 0, crowd, frozenset(), frozenset())
               for crowd in itertools.combinations_with_replacement(beginners, others)]
    seen = set(waiting)
    hits = set()
    while waiting:
        place, mark, level, crowd, own, foreign = waiting.pop()
        held = {lock for pair in [(kind, place), *[one[:2] for one in crowd]] for lock in locks_at(program, pair)}
        found = []
        for step, around in coming(program.row(kind))[place].items():
            written = step_at(program, (kind, step))
            if written[0] == "take" and written[1] in held:
                continue
            for after, fresh in watch(mark, place, step, around):
                back = level == 2 or any(in_conflict(one, written) for one in foreign)
                if after is None or fresh:
                    calm = tuple((name, at, False) for name, at, _ in crowd)
                    begun = frozenset() if after is None else frozenset([written])
                    found.append((step, after, 0 if after is None else 1, tuple(sorted(calm)), begun, frozenset()))
                elif back:
                    hits.add((after, step))
                    calm = tuple((name, at, False) for name, at, _ in crowd)
                    found.append((step, after, 2, tuple(sorted(calm)), frozenset(), frozenset()))
                else:
                    found.append((step, after, 1, crowd, own | {written}, foreign))
        for index, (name, at, reached) in enumerate(crowd):
            for step in coming(program.row(name))[at]:
                written = step_at(program, (name, step))
                if written[0] == "take" and written[1] in held:
                    continue
                now = reached or any(in_conflict(one, written) for one in own | foreign)
                rest = tuple(sorted((*crowd[:index], (name, step, now), *crowd[index + 1:])))
                found.append((place, mark, level, rest, own, foreign | {written} if now else foreign))
        waiting.extend(state for state in set(found) if state not in seen)
        seen.update(found)
    return hits


def crowd_breaks(stretch, others):
    """Whether a pass of the first thread is broken in a run in which there are so many other threads."""
    inside = stretch.steps()

    def watch(mark, place, step, around):
        if step not in inside:
            return [(None, False)]
        return [("in", mark is None or not goes_on(stretch, place, step))]

    return bool(crowd_hits(stretch.program, stretch.kind, others, watch))


def crowd_pairs(program, kind, others):
    """The ascending list of the bad pairs that need no more than so many other threads."""
    repeats = repeat_of(program.row(kind))
    found = set()
    for first in range(len(program.steps(kind))):
        def watch(mark, place, step, around):
            if mark is None:
                return [(None, False), (False, True)] if step == first else [(None, False)]
            both = step in repeats and repeats[step] == repeats.get(first)
            return [(both and (mark or around), False)]

        found.update((first, step, mark) for mark, step in crowd_hits(program, kind, others, watch))
    return sorted(found)
