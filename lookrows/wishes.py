"""Wishes: how far apart the editions that a reader takes may be, and rows that keep to that."""

from lookrows.alike import table
from lookrows.basics import refuse_strangers
from lookrows.errors import NotKept, SameFile
from lookrows.rows import Row
from lookrows.taking import limit, run_apart, taken


def broken(plan, row, wishes):
    """A run in which a reader with the row takes a set that does not meet the wishes, or None if there is none."""
    refuse_strangers(row.files, plan.files)
    refuse_strangers(wishes.names, row.files)
    missed = missed_pairs(taken(plan, row), wishes)
    if not missed:
        return None
    a, b = missed[0]
    # A row never forces a file to be ahead of another one, so each difference from 0 to the greatest one is possible.
    return run_apart(plan, row, a, b, max(0, wishes[a, b] + 1))


def unkept(plan, wishes):
    """The pairs of files for which no row over files of the plan keeps this wish alone."""
    refuse_strangers(wishes.names, plan.files)
    return missed_pairs(table(plan), wishes)


def fewest_looks(plan, wishes, *files):
    """A row with as few looks as possible that looks at all these files and those of the wishes, and keeps them."""
    refuse_strangers(wishes.names, plan.files)
    refuse_strangers(files, plan.files)
    lost = unkept(plan, wishes)
    if lost:
        first, second = lost[0]
        raise NotKept(first, second)
    asked = tuple({file: True for file in wishes.names + files})
    bridges = {
        (a, b): [file for file in plan.files if is_bridged(plan, wishes, a, b, file)] for a, b in wished_pairs(wishes)
    }
    best = None
    for outer in subsets(plan.files):
        inner = [file for file in asked if file not in outer]
        if best is None or 2 * len(outer) + len(inner) < len(best):
            order = kept_order(inner, unbridged_pairs(bridges, outer))
            if order is not None:
                # Each wish about a file that is looked at before and behind all others is kept.
                best = [*outer, *order, *outer]
    return Row(best)


def bridged(plan, wishes, a, b, file):
    """Whether looks at file before b and behind a keep the wish [a, b], or there is no such wish."""
    refuse_strangers((a, b), wishes.names)
    refuse_strangers((a, b, file), plan.files)
    if a == b:
        raise SameFile(a)
    return is_bridged(plan, wishes, a, b, file)


def is_bridged(plan, wishes, a, b, file):
    """What bridged tells."""
    most = wishes[a, b]
    if most is None:
        return True
    first = limit(plan, a, file)
    second = limit(plan, file, b)
    return first is not None and second is not None and first + second <= most


def wished_pairs(wishes):
    """The pairs of different files with a wish, by the places of both files among the names."""
    return [(a, b) for a in wishes.names for b in wishes.names if a != b and wishes[a, b] is not None]


def missed_pairs(closed, wishes):
    """The pairs of files that are further apart in some set of a closed table than the wishes allow."""
    return [(a, b) for a, b in wished_pairs(wishes) if closed[a, b] is None or closed[a, b] > wishes[a, b]]


def subsets(files):
    """All choices of these files, as tuples."""
    found = [()]
    for file in files:
        found = found + [(*chosen, file) for chosen in found]
    return found


def unbridged_pairs(bridges, outer):
    """The pairs of files that no file of outer bridges."""
    # Both files of a pair bridge it themselves, so that no file of outer is left in such a pair.
    return [pair for pair in bridges if not any([file in outer for file in bridges[pair]])]


def kept_order(files, pairs):
    """The files in an order in which the first file of each pair precedes the second one, or None if none does so."""
    order = []
    while len(order) < len(files):
        held = [b for a, b in pairs if a not in order]
        free = [file for file in files if file not in order and file not in held]
        if not free:
            return None
        order = order + free
    return order
