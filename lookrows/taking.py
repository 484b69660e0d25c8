"""What a reader with a row can take, and runs in which it does."""

from lookrows.basics import is_count, refuse_strangers
from lookrows.bounds import bounds_from
from lookrows.errors import BadNumber, SameFile
from lookrows.logs import run_of


def taken(plan, row, checks=None):
    """The closed bounds of the sets that a reader with this row can take, if it takes only sets in the checks."""
    refuse_strangers(row.files, plan.files)
    table = bounds_from(row.files, row_limits(plan, row))
    if checks is not None:
        refuse_strangers(checks.names, row.files)
        table = table & checks
    return table.closed()


def run_for(plan, row, editions):
    """A run in which reader 0 goes through the row and takes the set of these editions."""
    refuse_bad_editions(plan, row, editions)
    return run_of(plan, [[(file, editions[file]) for file in row.looks]])


def reaching(plan, row, first, second, *, apart=0):
    """A run in which reader 0 takes a set where first is as far ahead of second as possible, or by apart."""
    refuse_strangers(row.files, plan.files)
    refuse_strangers((first, second), row.files)
    if first == second:
        raise SameFile(first)
    if not is_count(apart):
        raise BadNumber(apart)
    most = taken(plan, row)[first, second]
    return run_apart(plan, row, first, second, apart if most is None else most)


def limit(plan, a, b):
    """How far a can be ahead of b where a look at a precedes a look at b, or None if there is no limit."""
    return plan[plan.step_of(b), plan.step_of(a)]


def limits(plan, files):
    """The limits, as far as there are some, for all pairs of different files among these."""
    table = {(a, b): limit(plan, a, b) for a in files for b in files if a != b}
    return {pair: table[pair] for pair in table if table[pair] is not None}


def row_limits(plan, row):
    """The limits for the pairs of different files of which a look at the first precedes a look at the second."""
    table = limits(plan, row.files)
    return {(a, b): table[a, b] for a, b in table if row.before(a, b)}


def refuse_bad_editions(plan, row, editions):
    """Raise NoFile or BadNumber if the plan does not have the row, or if editions does not give a set for it."""
    refuse_strangers(row.files, plan.files)
    refuse_strangers(row.files, editions)
    for file in row.files:
        if not is_count(editions[file]):
            raise BadNumber(editions[file])


def run_apart(plan, row, first, second, difference):
    """A run in which reader 0 takes a set where first is ahead of second by just this difference of at least 0."""
    table = taken(plan, row)
    table[first, second] = difference
    table[second, first] = -difference
    return run_for(plan, row, least_set(table))


def least_set(table):
    """The set in the table whose editions are the least ones of at least 0, for a table that has a set."""
    closed = table.closed()
    editions = {}
    for file in closed.names:
        limited = [closed[other, file] for other in closed.names]
        # Where file is ahead of another one in each set, that one has an edition of at least 0, too.
        editions[file] = max([int(-entry) for entry in limited if entry is not None])
    return editions
