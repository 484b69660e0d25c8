"""What several test files share: objects that are no names or integers, plans, tables, slow but plain definitions."""

from itertools import permutations, product
from random import Random

from lookrows.bounds import Bounds
from lookrows.plans import Plan

NOT_NAMES = [
    "", "A", "aB", "1", "1a", "_", "a_b", "a b", " a", "a ", "a\n", "\na", "a-b", "a.b", "abcdefghi", "a" * 9,
    "\u00e4", "a\u00e4", "a\u00b2", "a\u0661", "\uff41", "a\x00", None, True, False, 0, 1, 10 ** 59, 1.5, b"a",
    ["a"], ("a",), {"a": 1}, {"a"}, object(), str,
]
NOT_INTEGERS = [True, False, "0", "", 0.0, 1.5, b"1", [1], (1,), {1: 1}, {1}, object(), int, 1j]


class Hostile:
    """An object that refuses to be compared, hashed and shown."""

    __hash__ = None

    def __eq__(self, other):
        raise RuntimeError("compared")

    def __repr__(self):
        raise RuntimeError("shown")

    __str__ = __repr__


def plan_of(steps, *rules):
    """A plan with steps as a list of tuples (step, file, ...), or a string of steps without files."""
    plan = Plan()
    for parts in steps.split() if isinstance(steps, str) else steps:
        if isinstance(parts, str):
            plan.define(parts)
        else:
            plan.define(*parts)
    for p, q, shift in rules:
        plan[p, q] = shift
    return plan


def state(plan):
    """All that a plan tells about itself."""
    return (
        plan.steps,
        plan.files,
        [plan.files_of(step) for step in plan.steps],
        [plan.step_of(file) for file in plan.files],
        plan.rules(),
        [plan[p, q] for p in plan.steps for q in plan.steps],
        len(plan),
    )


def all_ways(plan, p, q):
    """Each way from p to q without a step twice, as a tuple (shift, steps)."""
    shifts = {(a, b): shift for a, b, shift in plan.rules()}

    def go(path, shift):
        if path[-1] == q:
            yield shift, path
            return
        for after in plan.steps:
            if after not in path and (path[-1], after) in shifts:
                yield from go(path + [after], shift + shifts[path[-1], after])

    return list(go([p], 0))


def slow_least(plan, p, q):
    """The least shift, from all ways."""
    return min([shift for shift, _ in all_ways(plan, p, q)], default=None)


def has_zero_ring(steps, rules):
    """Whether rules, a dict from pairs to shifts, have a ring of shift 0 over these steps."""
    for count in range(2, len(steps) + 1):
        for ring in permutations(steps, count):
            if all(rules.get((ring[k - 1], ring[k])) == 0 for k in range(count)):
                return True
    return False


def random_rules(random, steps, most):
    """Some rules without a zero ring: shift 0 only from an earlier step to a later one."""
    rules = []
    for i, p in enumerate(steps):
        for j, q in enumerate(steps):
            if i != j and random.random() < 0.4:
                rules.append((p, q, random.randint(0 if i < j else 1, most)))
    random.shuffle(rules)
    return rules


def random_plans(many, count, most, seed):
    """Plans with up to count steps, the same ones in each run of the tests."""
    random = Random(seed)
    for _ in range(many):
        names = [f"s{k}" for k in range(random.randint(0, count))]
        rules = random_rules(random, names, most)
        random.shuffle(names)
        plan = Plan()
        for name in names:
            files = [f"{name}f{k}" for k in range(random.randint(0, 2))]
            plan.define(name, *files)
        for p, q, shift in rules:
            plan[p, q] = shift
        yield plan


def great_plan():
    """A plan with 12 steps, 10 files and a rule for each pair."""
    plan = Plan()
    for k in range(12):
        files = [f"f{k}"] if k < 10 else []
        plan.define(f"s{k}", *files)
    for i in range(12):
        for j in range(12):
            if i != j:
                plan[f"s{i}", f"s{j}"] = (7 * i + 5 * j) % 100 if i < j else 1 + (11 * i + 3 * j) % 99
    return plan


def bounds_of(names, *entries):
    """Bounds over names in one string, with entries (a, b, n)."""
    bounds = Bounds(names.split())
    for a, b, n in entries:
        bounds[a, b] = n
    return bounds


def entries(bounds):
    """The names of bounds and the integer entries of different files."""
    pairs = permutations(bounds.names, 2)
    return bounds.names, {(a, b): bounds[a, b] for a, b in pairs if bounds[a, b] is not None}


def ring_sum(bounds, ring):
    """The sum of a ring, or None if an entry is None."""
    parts = [bounds[ring[k - 1], ring[k]] for k in range(len(ring))]
    return None if None in parts else sum(parts)


def rings(bounds):
    """Each ring as a tuple (sum, files), beginning anywhere."""
    found = []
    for count in range(2, len(bounds) + 1):
        for ring in permutations(bounds.names, count):
            if ring_sum(bounds, ring) is not None:
                found.append((ring_sum(bounds, ring), ring))
    return found


def has_set(bounds):
    """Whether no ring has a sum below 0."""
    return all(total >= 0 for total, _ in rings(bounds))


def slow_entry(bounds, a, b):
    """The least sum along a path from a to b, from all paths; for bounds with a set."""
    if a == b:
        return 0
    others = [name for name in bounds.names if name not in (a, b)]
    found = []
    for count in range(len(others) + 1):
        for between in permutations(others, count):
            path = [a, *between, b]
            parts = [bounds[pair] for pair in zip(path, path[1:])]
            if None not in parts:
                found.append(sum(parts))
    return min(found, default=None)


def slow_closed(bounds):
    """The names and integer entries of the closed table, from all paths."""
    table = {(a, b): slow_entry(bounds, a, b) for a, b in permutations(bounds.names, 2)}
    return bounds.names, {pair: table[pair] for pair in table if table[pair] is not None}


def slow_sets(bounds, low, high):
    """The sets with editions from low to high that meet all entries, as tuples in ascending order."""
    found = []
    for editions in product(range(low, high + 1), repeat=len(bounds)):
        x = dict(zip(bounds.names, editions))
        if all(x[a] <= x[b] + n for (a, b), n in entries(bounds)[1].items()):
            found.append(editions)
    return found


def random_bounds(many, count, least, most, seed, share=0.6):
    """Bounds over up to count names, the same ones in each run of the tests."""
    random = Random(seed)
    for _ in range(many):
        names = random.sample("abcdefghij", random.randint(0, count))
        bounds = Bounds(names)
        for a, b in permutations(names, 2):
            if random.random() < share:
                bounds[a, b] = random.randint(least, most)
        yield bounds
