"""parting_row, parting_plan, table and plan_of: promises [40] to [43]."""

from itertools import permutations, product
from random import Random

from lookrows.alike import parting_plan, parting_row, plan_of, table
from lookrows.bounds import Bounds
from lookrows.errors import BadNumber, NoFile, NoSet, NotKept
from lookrows.plans import Plan
from lookrows.rows import Row, shortest
from lookrows.taking import taken
from tests import samples
from tests.cases import ANY, Case
from tests.readers import drawn_plan, random_rows, row_of
from tests.samples import bounds_of, entries, great_plan, has_set, random_bounds, ring_sum, slow_closed, slow_least
from tests.samples import state


def tables(plan):
    """The least shifts between the steps of all files, from all ways."""
    return {
        (a, b): slow_least(plan, plan.step_of(a), plan.step_of(b)) for a, b in product(sorted(plan.files), repeat=2)
    }


def renamed(random, plan):
    """A plan with other names and another order of the steps, and with one more step."""
    made = Plan()
    names = {step: f"t{k}" for k, step in enumerate(plan.steps)}
    made.define("extra")
    for step in random.sample(plan.steps, len(plan)):
        files = random.sample(plan.files_of(step), len(plan.files_of(step)))
        made.define(names[step], *files)
    for p, q, shift in plan.rules():
        made[names[p], names[q]] = shift
    return made


class PartingRowTest(Case):
    def parted(self, one, two):
        """The row that parts the plans does so; asked both ways."""
        for first, second in [(one, two), (two, one)]:
            before = state(first), state(second)
            found = parting_row(first, second)
            self.assertEqual((state(first), state(second)), before)
            self.assertIsInstance(found, tuple)
            row, editions = found
            self.assertIsInstance(row, Row)
            self.assertEqual((len(row), len(row.files)), (2, 2))
            self.assertEqual(set(editions), set(row.files))
            self.assertTrue(all(value.__class__ is int and value >= 0 for value in editions.values()))
            self.assertNotEqual(editions in taken(first, row), editions in taken(second, row))

    def alike(self, one, two):
        self.assertIsNone(parting_row(one, two))
        self.assertIsNone(parting_row(two, one))

    def test_one_shift_is_another(self):
        one = samples.plan_of([("p", "a"), ("q", "b")], ("p", "q", 1))
        two = samples.plan_of([("p", "a"), ("q", "b")], ("p", "q", 2))
        self.parted(one, two)
        two["p", "q"] = 1
        self.alike(one, two)
        two["q", "p"] = 99
        self.parted(one, two)

    def test_a_way_that_is_gone(self):
        one = samples.plan_of([("p", "a"), ("x",), ("q", "b")], ("p", "x", 1), ("x", "q", 0))
        two = samples.plan_of([("p", "a"), ("x",), ("q", "b")], ("p", "x", 1))
        self.parted(one, two)
        self.alike(one, samples.plan_of([("q", "b"), ("p", "a")], ("p", "q", 1)))

    def test_a_file_under_another_step(self):
        one = samples.plan_of([("p", "a", "b"), ("q", "c")], ("p", "q", 0))
        two = samples.plan_of([("p", "a"), ("q", "b", "c")], ("p", "q", 0))
        self.parted(one, two)
        three = samples.plan_of([("p", "a"), ("r", "b"), ("q", "c")], ("p", "q", 0), ("r", "q", 0), ("p", "r", 0))
        self.parted(one, three)
        self.parted(one, samples.plan_of([("p", "a"), ("r", "b"), ("q", "c")], ("p", "r", 0), ("r", "p", 1)))

    def test_few_files(self):
        self.alike(Plan(), Plan())
        self.alike(Plan(), samples.plan_of("p q", ("p", "q", 1)))
        self.alike(samples.plan_of([("p", "a")]), samples.plan_of([("b",), ("a",), ("q", "a")], ("a", "q", 0)))

    def test_drawn_plans(self):
        random = Random(1)
        same = other = 0
        for _ in range(300):
            one = drawn_plan(random, random.randint(1, 4), 4, 1)
            two = renamed(random, one)
            self.alike(one, two)
            if random.random() < 0.5 and two.rules():
                p, q, shift = random.choice(two.rules())
                two[p, q] = random.choice([None, shift + 1, 9])
            else:
                two = drawn_plan(random, random.randint(1, 4), 4, 1)
            if tables(one) == tables(two):
                same += 1
                self.alike(one, two)
            else:
                other += 1
                self.parted(one, two)
        self.assertGreater(min(same, other), 20)

    def test_great_plans(self):
        one, two = great_plan(), great_plan()
        self.alike(one, two)
        two["s3", "s7"] = 0
        self.parted(one, two)

    def test_other_files(self):
        one = samples.plan_of([("p", "a", "c"), ("q", "b", "d")])
        two = samples.plan_of([("p", "x", "d"), ("a", "y", "a")])
        self.refused(NoFile, "c", parting_row, one, two)
        self.refused(NoFile, "x", parting_row, two, one)
        self.refused(NoFile, "e", parting_row, one, samples.plan_of([("p", "a", "b", "e"), ("q", "f", "c", "d")]))
        self.refused(NoFile, "a", parting_row, one, Plan())
        self.refused(NoFile, "a", parting_row, Plan(), one)


class PartingPlanTest(Case):
    def parted(self, one, two):
        for first, second in [(one, two), (two, one)]:
            before = first.looks, second.looks
            found = parting_plan(first, second)
            self.assertEqual((first.looks, second.looks), before)
            self.assertIsInstance(found, tuple)
            plan, editions = found
            self.assertIsInstance(plan, Plan)
            self.assertTrue(set(first.files) <= set(plan.files))
            self.assertEqual(set(editions), set(first.files))
            self.assertTrue(all(value.__class__ is int and value >= 0 for value in editions.values()))
            self.assertNotEqual(editions in taken(plan, first), editions in taken(plan, second))

    def alike(self, one, two):
        self.assertIsNone(parting_plan(one, two))
        self.assertIsNone(parting_plan(two, one))

    def test_rows_with_the_same_blocks(self):
        for one, two in [
            ("", ""), ("a", "aaa"), ("aba", "abba"), ("abab", "baba"), ("aba", "bab"), ("ab", "ab"),
            ("abcab", "bacacba"), ("abac", "babac"),
        ]:
            self.alike(row_of(one), row_of(two))

    def test_rows_with_other_blocks(self):
        for one, two in [("ab", "ba"), ("ab", "aba"), ("abc", "acb"), ("abca", "abcab"), ("abcabc", "abcba")]:
            if row_of(one).blocks() == row_of(two).blocks():
                self.alike(row_of(one), row_of(two))
            else:
                self.parted(row_of(one), row_of(two))
        self.parted(row_of("ab"), row_of("ba"))
        self.parted(row_of("ab"), row_of("aba"))

    def test_all_small_and_drawn_rows(self):
        rows = [row_of(looks) for count in range(5) for looks in product("abc", repeat=count) if len(set(looks)) == 3]
        rows += [row_of(looks) for count in range(5) for looks in product("ab", repeat=count) if len(set(looks)) == 2]
        rows += [Row(looks) for looks in random_rows(40, "abcd", 9, 2)]
        for one, two in product(rows, repeat=2):
            if set(one.files) == set(two.files):
                if one.blocks() == two.blocks():
                    self.assertIsNone(parting_plan(one, two))
                else:
                    self.assertIsNotNone(parting_plan(one, two))
        for one, two in zip(rows, rows[1:]):
            if set(one.files) == set(two.files) and one.blocks() != two.blocks():
                self.parted(one, two)

    def test_great_rows(self):
        looks = [f"f{7 * k % 10}" for k in range(40)]
        self.alike(Row(looks), shortest(Row(looks)))
        self.parted(Row(looks), Row([*looks[10:20]]))

    def test_other_files(self):
        self.refused(NoFile, "c", parting_plan, row_of("acb"), row_of("axyb"))
        self.refused(NoFile, "x", parting_plan, row_of("ab"), row_of("baxyx"))
        self.refused(NoFile, "a", parting_plan, row_of("aa"), row_of(""))
        self.refused(NoFile, "a", parting_plan, row_of(""), row_of("aa"))


class TableTest(Case):
    def test_small_tables(self):
        self.assertEqual(entries(table(Plan())), ((), {}))
        self.assertEqual(entries(table(samples.plan_of([("p", "a")]))), (("a",), {}))
        plan = samples.plan_of([("p", "b", "a"), ("x",), ("q", "c")], ("p", "x", 3), ("x", "q", 4))
        before = state(plan)
        found = table(plan)
        self.assertIsInstance(found, Bounds)
        expected = {("b", "a"): 0, ("a", "b"): 0, ("c", "a"): 7, ("c", "b"): 7}
        self.assertEqual(entries(found), (("b", "a", "c"), expected))
        found["a", "c"] = 1
        self.assertEqual(entries(table(plan))[1], expected)
        self.assertEqual(state(plan), before)

    def test_drawn_plans(self):
        random = Random(3)
        plans = [drawn_plan(random, random.randint(1, 5), random.randint(1, 5), 4) for _ in range(80)] + [great_plan()]
        for plan in plans:
            found = table(plan)
            self.assertEqual(found.names, plan.files)
            for a, b in permutations(plan.files, 2):
                self.assertEqual(found[a, b], plan[plan.step_of(b), plan.step_of(a)])
            self.assertEqual(entries(found), entries(found.closed()))
            whole = Row(plan.files + plan.files[:-1])
            self.assertEqual(entries(taken(plan, whole)), entries(found))
            some = random.sample(plan.files, random.randint(1, len(plan.files)))
            part = taken(plan, Row(some + some[:-1]))
            self.assertEqual(part.names, tuple(some))
            for a, b in permutations(some, 2):
                self.assertEqual(part[a, b], found[a, b])
            less = taken(plan, Row(random.choices(plan.files, k=6)))
            for a, b in permutations(less.names, 2):
                self.assertTrue(less[a, b] is None or found[a, b] is not None and found[a, b] <= less[a, b])


class PlanOfTest(Case):
    def check(self, bounds):
        """The plan of the bounds is what the document says."""
        before = entries(bounds)
        plan = plan_of(bounds)
        self.assertIsInstance(plan, Plan)
        self.assertEqual(entries(bounds), before)
        names, closed = slow_closed(bounds) if len(bounds) < 7 else entries(bounds.closed())
        groups = {}
        for b in names:
            equal = [a for a in names if a == b or closed.get((a, b)) == 0 and closed.get((b, a)) == 0]
            groups.setdefault(equal[0], []).append(b)
        self.assertEqual(plan.steps, tuple(groups))
        for step in plan.steps:
            self.assertEqual(plan.files_of(step), tuple(groups[step]))
        found = table(plan)
        self.assertEqual({(a, b): found[a, b] for a, b in permutations(names, 2)}, {
            (a, b): closed.get((a, b)) for a, b in permutations(names, 2)
        })
        return plan

    def test_few_names(self):
        self.assertEqual(state(self.check(Bounds([]))), state(Plan()))
        plan = self.check(bounds_of("b"))
        self.assertEqual((plan.steps, plan.files), (("b",), ("b",)))

    def test_files_of_one_step(self):
        plan = self.check(bounds_of("c a b", ("a", "b", 0), ("b", "a", 0), ("b", "c", 4)))
        self.assertEqual((plan.steps, plan.files, plan.files_of("a")), (("c", "a"), ("c", "a", "b"), ("a", "b")))
        self.assertEqual((plan["c", "a"], plan["a", "c"]), (4, None))
        # Only closing tells that the three are equal; other files stand between them.
        ring = [("d", "y", 0), ("y", "b", 0), ("b", "d", 0), ("x", "d", 2)]
        plan = self.check(bounds_of("x d a y c b", *ring))
        self.assertEqual(plan.steps, ("x", "d", "a", "c"))
        self.assertEqual(plan.files_of("d"), ("d", "y", "b"))
        self.assertEqual(plan.files, ("x", "d", "y", "b", "a", "c"))

    def test_zero_one_way_only(self):
        plan = self.check(bounds_of("a b", ("a", "b", 0), ("b", "a", 1)))
        self.assertEqual((plan.steps, plan["b", "a"], plan["a", "b"]), (("a", "b"), 0, 1))
        self.check(bounds_of("a b", ("a", "b", 0)))

    def test_the_limits_of_shifts(self):
        self.check(bounds_of("a b c", ("a", "b", 99), ("b", "a", 0)))
        self.refused(BadNumber, 100, plan_of, bounds_of("a b c", ("a", "b", 100)))
        self.refused(BadNumber, 100, plan_of, bounds_of("a b c", ("a", "b", 50), ("b", "c", 50)))
        self.check(bounds_of("a b c", ("a", "b", 100), ("a", "c", 1), ("c", "b", 98)))
        self.refused(BadNumber, 10 ** 60 - 1, plan_of, bounds_of("a b", ("b", "a", 10 ** 60 - 1)))

    def test_errors_in_their_order(self):
        below = self.refused(NotKept, ("b", "a"), plan_of, bounds_of("a b c", ("a", "b", 200), ("b", "a", -1)))
        self.assertEqual((below.first, below.second), ("b", "a"))
        # The pair comes from the closed table.
        self.refused(NotKept, ("c", "b"), plan_of, bounds_of("c b a", ("c", "a", 1), ("a", "b", -2), ("b", "c", 300)))
        self.refused(NotKept, ("a", "b"), plan_of, bounds_of("c a b", ("a", "b", -2), ("c", "b", 101), ("c", "a", 100)))
        self.refused(BadNumber, 101, plan_of, bounds_of("c a b", ("a", "b", 102), ("c", "b", 101)))
        bounds = bounds_of("a b c", ("a", "b", -1), ("b", "a", 0), ("a", "c", 100))
        members = self.refused(NoSet, ANY, plan_of, bounds).members
        self.assertLess(ring_sum(bounds, members), 0)

    def test_drawn_tables(self):
        made = refused = 0
        for bounds in random_bounds(400, 5, -1, 3, 4, 0.5):
            if has_set(bounds):
                names, closed = slow_closed(bounds)
                low = [pair for pair in permutations(names, 2) if closed.get(pair, 0) < 0]
                if low:
                    refused += 1
                    self.refused(NotKept, low[0], plan_of, bounds)
                else:
                    made += 1
                    self.check(bounds)
            else:
                self.refused(NoSet, ANY, plan_of, bounds)
        self.assertGreater(min(made, refused), 40)

    def test_plans_and_their_tables(self):
        random = Random(5)
        for _ in range(60):
            plan = drawn_plan(random, random.randint(1, 5), 5, 3)
            made = self.check(table(plan))
            self.assertIsNone(parting_row(plan, made))

    def test_a_great_table(self):
        names = [f"n{k}" for k in range(10)]
        bounds = Bounds(names)
        for i, j in permutations(range(10), 2):
            bounds[names[i], names[j]] = 0 if i // 2 == j // 2 else (7 * i + 3 * j) % 90 + 5
        self.check(bounds)

    def test_what_is_returned_is_new(self):
        bounds = bounds_of("a b", ("a", "b", 3))
        plan = plan_of(bounds)
        bounds["a", "b"] = 1
        bounds &= bounds_of("c")
        self.assertEqual((plan.files, plan["b", "a"]), (("a", "b"), 3))
        plan["b", "a"] = 7
        plan.define("c", "c")
        self.assertEqual(bounds["a", "b"], 1)
