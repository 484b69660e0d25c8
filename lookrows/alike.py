"""Which plans and which rows are alike, and plans made from tables."""

from lookrows.basics import refuse_strangers
from lookrows.bounds import bounds_from
from lookrows.errors import BadNumber, NotKept
from lookrows.plans import Plan, is_shift, plan_from
from lookrows.rows import Row
from lookrows.taking import limit, limits


def parting_row(one, two):
    """A row and a set that a reader with it can take in just one of the two plans, or None if there is none."""
    refuse_other_files(one, two)
    for a in one.files:
        for b in one.files:
            found = [limit(plan, a, b) for plan in (one, two)]
            if found[0] != found[1]:
                # The set is just beyond the smaller one of the two limits, so within the other one.
                least = min([int(shift) for shift in found if shift is not None])
                return Row([a, b]), {a: least + 1, b: 0}
    return None


def parting_plan(one, two):
    """A plan and a set that just one of the two rows can take in it, or None if there is none."""
    refuse_other_files(one, two)
    for a in one.files:
        for b in one.files:
            if a != b and one.before(a, b) != two.before(a, b):
                editions = {file: 0 for file in one.files}
                editions[a] = 1
                return plan_of_rule(one.files, a, b), editions
    return None


def table(plan):
    """The bounds over the files of the plan that hold for every row."""
    return bounds_from(plan.files, limits(plan, plan.files))


def plan_of(bounds):
    """A plan over the names of the bounds as its files that has their closed entries as its table."""
    closed = bounds.closed()
    names = closed.names
    entries = [(a, b, closed[a, b]) for a in names for b in names if closed[a, b] is not None]
    for a, b, entry in entries:
        if entry < 0:
            raise NotKept(a, b)
    for _, _, entry in entries:
        if not is_shift(entry):
            raise BadNumber(entry)
    writer = first_equals(closed)
    writes = {step: tuple([file for file in names if writer[file] == step]) for step in names if writer[step] == step}
    return plan_from(writes, {(b, a): entry for a, b, entry in entries if a != b and a in writes and b in writes})


def refuse_other_files(one, two):
    """Raise NoFile for the first file that only one of two plans or rows has."""
    refuse_strangers(one.files, two.files)
    refuse_strangers(two.files, one.files)


def plan_of_rule(files, a, b):
    """A plan in which each of the files has a step of its own and only that of b precedes that of a."""
    plan = Plan()
    for file in files:
        plan.define(file, file)
    plan[b, a] = 0
    return plan


def first_equals(closed):
    """For each name the first name whose edition is the same in each set of a closed table."""
    found = {}
    for b in closed.names:
        for a in closed.names:
            if b not in found and closed[a, b] == 0 and closed[b, a] == 0:
                found[b] = a
    return found
