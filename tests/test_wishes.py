"""broken, unkept, fewest_looks and bridged: promises [44] to [47]."""

from itertools import combinations, permutations, product
from random import Random

from lookrows.bounds import Bounds
from lookrows.errors import NoFile, NotKept, SameFile
from lookrows.plans import Plan
from lookrows.rows import Row
from lookrows.runs import watched
from lookrows.taking import taken
from lookrows.wishes import bridged, broken, fewest_looks, unkept
from tests.cases import Case
from tests.readers import drawn_plan, random_rows, row_of, slow_taken
from tests.samples import Hostile, bounds_of, entries, great_plan, plan_of, slow_least, state


def drawn_wishes(random, names, least, most, share=0.6):
    """Wishes over these names with drawn entries."""
    wishes = Bounds(random.sample(names, len(names)))
    for a, b in permutations(names, 2):
        if random.random() < share:
            wishes[a, b] = random.randint(least, most)
    return wishes


def kept_wishes(random, plan, names, slack):
    """Wishes over these names that some row keeps."""
    wishes = Bounds(random.sample(names, len(names)))
    for a, b in permutations(names, 2):
        shift = plan[plan.step_of(b), plan.step_of(a)]
        if shift is not None and random.random() < 0.7:
            wishes[a, b] = shift + random.randint(0, slack)
    return wishes


def shift_between(plan, b, a):
    """The least shift from the step of b to the step of a, from all ways."""
    return slow_least(plan, plan.step_of(b), plan.step_of(a))


def keeps(plan, row, wishes):
    """Whether the row looks at all names of the wishes and keeps them, from the closed table."""
    if not all(name in row for name in wishes.names):
        return False
    table = taken(plan, row)
    for (a, b), n in entries(wishes)[1].items():
        if table[a, b] is None or table[a, b] > n:
            return False
    return True


def least_number(plan, wishes, files):
    """The number of looks that the document tells, with all sequences of files gone through."""
    asked = set(wishes.names) | set(files)

    def is_bridge(a, b, x):
        n = wishes[a, b]
        first, second = shift_between(plan, b, x), shift_between(plan, x, a)
        return n is None or first is not None and second is not None and first + second <= n

    def is_enough(chosen):
        rest = sorted(asked - set(chosen))
        for count in range(2, len(rest) + 1):
            for ring in permutations(rest, count):
                pairs = [(ring[k - 1], ring[k]) for k in range(count)]
                if all(
                    a in wishes.names and b in wishes.names and wishes[a, b] is not None
                    and not any(is_bridge(a, b, x) for x in chosen) for a, b in pairs
                ):
                    return False
        return True

    best = None
    for count in range(len(plan.files) + 1):
        for chosen in combinations(plan.files, count):
            number = len(asked) + sum(1 if x in asked else 2 for x in chosen)
            if (best is None or number < best) and is_enough(chosen):
                best = number
    return best


class BrokenTest(Case):
    def check(self, plan, row, wishes):
        """broken gives None or a run that takes a set against the wishes; whether it is None is returned."""
        before = state(plan), row.looks, entries(wishes)
        items = broken(plan, row, wishes)
        self.assertEqual((state(plan), row.looks, entries(wishes)), before)
        if items is None:
            return True
        self.assertIsInstance(items, list)
        looks = watched(plan, items)
        self.assertEqual([(reader, file) for reader, file, _ in looks], [(0, file) for file in row.looks])
        editions = {file: edition for _, file, edition in looks}
        self.assertTrue(all(editions[file] == edition for _, file, edition in looks))
        self.assertNotIn({name: editions[name] for name in wishes.names}, wishes)
        return False

    def test_rows_that_keep_and_rows_that_do_not(self):
        plan = plan_of([("p", "a"), ("q", "b")], ("p", "q", 2))
        for looks, names, pairs, kept in [
            ("ba", "a b", [("b", "a", 2)], True),
            ("ba", "a b", [("b", "a", 3)], True),
            ("ba", "a b", [("b", "a", 1)], False),
            ("ab", "a b", [("b", "a", 2)], False),
            ("aba", "b a", [("b", "a", 2)], True),
            ("ab", "a b", [("a", "b", 40)], False),
            ("ab", "a b", [], True),
            ("ab", "", [], True),
            ("", "", [], True),
            ("ab", "b", [], True),
            ("ba", "a b", [("b", "a", -1)], False),
            ("ba", "a b", [("b", "a", -40)], False),
            ("ba", "a b", [("b", "a", 40), ("a", "b", 40)], False),
        ]:
            self.assertIs(self.check(plan, row_of(looks), bounds_of(names, *pairs)), kept, (looks, pairs))

    def test_a_wish_that_only_a_path_keeps(self):
        plan = plan_of([("p", "a"), ("q", "b"), ("r", "c")], ("p", "q", 1), ("q", "r", 1))
        self.assertTrue(self.check(plan, row_of("cba"), bounds_of("a c", ("c", "a", 2))))
        plan["p", "r"] = 9
        self.assertTrue(self.check(plan, row_of("cba"), bounds_of("a c", ("c", "a", 2))))
        self.assertFalse(self.check(plan, row_of("cba"), bounds_of("a c", ("c", "a", 1))))

    def test_wishes_that_no_set_meets(self):
        plan = plan_of([("p", "a", "b")])
        self.assertFalse(self.check(plan, row_of("aba"), bounds_of("b a", ("a", "b", -1), ("b", "a", 0))))
        self.assertFalse(self.check(plan, row_of("aba"), bounds_of("b a", ("a", "b", 0), ("b", "a", -1))))
        self.assertTrue(self.check(plan, row_of("aba"), bounds_of("b a", ("a", "b", 0), ("b", "a", 0))))

    def test_all_runs_of_small_plans(self):
        random = Random(1)
        found = {True: 0, False: 0}
        for looks in random_rows(200, ["f0", "f1", "f2"], 6, 2):
            plan, row = drawn_plan(random, random.randint(1, 3), 3, 1), Row(looks)
            names = random.sample(row.files, random.randint(0, len(row.files)))
            wishes = drawn_wishes(random, names, -1, 2, 0.3)
            sets = [dict(seen) for seen in slow_taken(plan, looks, 3)]
            kept = all({name: x[name] for name in names} in wishes for x in sets)
            self.assertIs(self.check(plan, row, wishes), kept)
            found[kept] += 1
        self.assertGreater(min(found.values()), 15)

    def test_a_great_plan(self):
        plan = great_plan()
        row = Row([f"f{7 * k % 10}" for k in range(40)])
        wishes = Bounds([f"f{k}" for k in range(9, -1, -1)])
        for a, b in permutations(wishes.names, 2):
            shift = plan[plan.step_of(b), plan.step_of(a)]
            if shift <= 40:
                wishes[a, b] = shift
        self.assertTrue(self.check(plan, row, wishes))
        for a, b in permutations(wishes.names, 2):
            kept = wishes[a, b]
            if kept is not None:
                wishes[a, b] = kept - 1
                self.assertFalse(self.check(plan, row, wishes))
                wishes[a, b] = kept

    def test_errors_in_their_order(self):
        plan = plan_of([("p", "a"), ("q", "b"), ("r", "c")])
        self.refused(NoFile, "x", broken, plan, row_of("axy"), bounds_of("z"))
        self.refused(NoFile, "z", broken, plan, row_of("ab"), bounds_of("b z y"))
        self.refused(NoFile, "c", broken, plan, row_of("ab"), bounds_of("a c", ("a", "c", -1), ("c", "a", 0)))
        self.refused(NoFile, "p", broken, plan, Row(["p"]), bounds_of(""))

    def test_what_is_returned_is_new(self):
        plan = plan_of([("p", "a"), ("q", "b")])
        row, wishes = row_of("ab"), bounds_of("a b", ("a", "b", 1))
        broken(plan, row, wishes).clear()
        self.assertFalse(self.check(plan, row, wishes))


class UnkeptTest(Case):
    def test_entries_around_the_least_shift(self):
        plan = plan_of([("p", "a", "c"), ("q", "b")], ("p", "q", 3))
        for n, expected in [(2, [("b", "a")]), (3, []), (4, []), (-1, [("b", "a")]), (None, []), (10 ** 59, [])]:
            self.assertEqual(unkept(plan, bounds_of("a b", ("b", "a", n))), expected)
        for n in [-5, 0, 10 ** 60 - 1]:
            self.assertEqual(unkept(plan, bounds_of("a b", ("a", "b", n))), [("a", "b")])
        self.assertEqual(unkept(plan, bounds_of("a c", ("a", "c", 0), ("c", "a", -1))), [("c", "a")])
        self.assertEqual(unkept(plan, bounds_of("")), [])

    def test_the_order_of_the_pairs(self):
        plan = plan_of([("p", "a"), ("q", "b"), ("r", "c")])
        pairs = [("c", "a", 1), ("a", "b", 2), ("b", "a", 0), ("a", "c", 7), ("c", "b", 0), ("b", "c", -3)]
        found = unkept(plan, bounds_of("b c a", *pairs))
        self.assertEqual(found, [("b", "c"), ("b", "a"), ("c", "b"), ("c", "a"), ("a", "b"), ("a", "c")])
        self.assertIsInstance(found, list)
        found.clear()
        self.assertEqual(len(unkept(plan, bounds_of("b c a", *pairs))), 6)

    def test_strangers(self):
        plan = plan_of([("p", "a"), ("q", "b")])
        self.refused(NoFile, "x", unkept, plan, bounds_of("a x b y", ("a", "b", -1)))
        self.refused(NoFile, "p", unkept, plan, bounds_of("p"))

    def test_drawn_wishes(self):
        random = Random(3)
        empty = 0
        for _ in range(200):
            plan = drawn_plan(random, random.randint(1, 4), 4, 2)
            names = random.sample(plan.files, random.randint(0, 4))
            wishes = drawn_wishes(random, names, -1, 6, random.choice([0.2, 0.7]))
            before = state(plan), entries(wishes)
            expected = []
            for a, b in permutations(wishes.names, 2):
                shift = shift_between(plan, b, a)
                if wishes[a, b] is not None and (shift is None or shift > wishes[a, b]):
                    expected.append((a, b))
            self.assertEqual(unkept(plan, wishes), expected)
            self.assertEqual((state(plan), entries(wishes)), before)
            if not expected:
                empty += 1
                self.assertTrue(keeps(plan, Row(wishes.names + wishes.names[:-1]), wishes))
        self.assertGreater(empty, 30)


class FewestLooksTest(Case):
    def check(self, plan, wishes, *files):
        """The row keeps the wishes and looks at all that is asked for; it is returned."""
        before = state(plan), entries(wishes)
        row = fewest_looks(plan, wishes, *files)
        self.assertEqual((state(plan), entries(wishes)), before)
        self.assertIsInstance(row, Row)
        self.assertTrue(all(file in plan.files for file in row.files))
        self.assertTrue(all(file in row for file in (*wishes.names, *files)))
        self.assertTrue(keeps(plan, row, wishes))
        self.assertIsNone(broken(plan, row, wishes))
        return row

    def test_no_wishes_and_no_files(self):
        plan = plan_of([("p", "a"), ("q", "b")], ("p", "q", 0))
        self.assertEqual(len(self.check(plan, Bounds(()))), 0)
        self.assertEqual(len(self.check(Plan(), Bounds([]))), 0)
        self.assertEqual(len(self.check(plan, Bounds(()), "b")), 1)
        self.assertEqual(len(self.check(plan, bounds_of("b a"))), 2)
        self.assertEqual(len(self.check(plan, bounds_of("b"), "b", "b", "a", "b")), 2)
        self.assertEqual(len(self.check(plan, bounds_of(""), "a", "a")), 1)

    def test_small_rows(self):
        plan = plan_of([("p", "a"), ("q", "b")], ("p", "q", 0))
        self.assertEqual(self.check(plan, bounds_of("a b", ("b", "a", 0))).looks, ("b", "a"))
        plan = plan_of([("p", "a", "b")])
        row = self.check(plan, bounds_of("a b", ("b", "a", 0), ("a", "b", 0)))
        self.assertIn(row.looks, [("a", "b", "a"), ("b", "a", "b")])
        row = self.check(plan, bounds_of("a b", ("b", "a", 0)))
        self.assertEqual(row.looks, ("b", "a"))

    def test_a_file_that_is_not_asked_for(self):
        # m stands between all pairs of the four files: two looks at it are fewer than three more looks at them.
        steps = [(f"s{k}", f"f{k}") for k in range(4)] + [("m", "m")]
        rules = [("m", f"s{k}", 1) for k in range(4)] + [(f"s{k}", "m", 1) for k in range(4)]
        plan = plan_of(steps, *rules)
        wishes = Bounds([f"f{k}" for k in range(4)])
        for a, b in permutations(wishes.names, 2):
            wishes[a, b] = 2
        row = self.check(plan, wishes)
        self.assertEqual((len(row), row.looks.count("m")), (6, 2))
        row = self.check(plan, wishes, "m", "f2")
        self.assertEqual(len(row), 6)
        plan["m", "s3"] = 2
        plan["s1", "s3"] = 2
        self.assertEqual(len(self.check(plan, bounds_of("f1 f3", ("f3", "f1", 2)))), 2)

    def test_no_shorter_row_of_small_plans(self):
        random = Random(4)
        lengths = {}
        for _ in range(150):
            plan = drawn_plan(random, random.randint(1, 3), 3, 1)
            wishes = kept_wishes(random, plan, random.sample(plan.files, random.randint(0, 3)), 2)
            files = [random.choice(plan.files) for _ in range(random.randint(0, 2))]
            row = self.check(plan, wishes, *files)
            lengths[len(row)] = lengths.get(len(row), 0) + 1
            self.assertEqual(len(row), least_number(plan, wishes, files))
            for count in range(len(row)):
                for looks in product(plan.files, repeat=count):
                    if set(looks) >= {*wishes.names, *files}:
                        self.assertFalse(keeps(plan, Row(looks), wishes), (plan.rules(), entries(wishes), looks))
        self.assertGreater(min(lengths[3], lengths[4]), 3)

    def test_no_shorter_row_of_plans_with_four_files(self):
        random = Random(5)
        for _ in range(6):
            plan = drawn_plan(random, 4, 4, 1)
            wishes = kept_wishes(random, plan, list(plan.files), 2)
            row = self.check(plan, wishes)
            for looks in product(plan.files, repeat=len(row) - 1):
                if len(set(looks)) == 4:
                    self.assertFalse(keeps(plan, Row(looks), wishes))

    def test_the_number_that_the_document_tells(self):
        random = Random(6)
        numbers = {}
        for _ in range(60):
            plan = drawn_plan(random, random.randint(3, 5), 5, 1)
            wishes = kept_wishes(random, plan, random.sample(plan.files, random.randint(3, 4)), 3)
            files = [random.choice(plan.files) for _ in range(random.randint(0, 2))]
            number = least_number(plan, wishes, files)
            self.assertEqual(len(self.check(plan, wishes, *files)), number)
            numbers[number] = numbers.get(number, 0) + 1
        self.assertGreater(len(numbers), 3)

    def test_plans_with_eight_files(self):
        random = Random(7)
        for steps in (3, 8, 8, 8):
            plan = drawn_plan(random, steps, 8, 3)
            wishes = kept_wishes(random, plan, list(plan.files), 2)
            row = self.check(plan, wishes, plan.files[0])
            self.assertLessEqual(len(row), 15)
        plan = plan_of([("p", *[f"f{k}" for k in range(8)])])
        wishes = Bounds(plan.files)
        for a, b in permutations(plan.files, 2):
            wishes[a, b] = 0
        self.assertEqual(len(self.check(plan, wishes)), 9)

    def test_somewhat_beyond_the_limit(self):
        plan = great_plan()
        wishes = kept_wishes(Random(8), plan, list(plan.files), 5)
        self.assertLessEqual(len(self.check(plan, wishes)), 19)

    def test_errors_in_their_order(self):
        plan = plan_of([("p", "a"), ("q", "b")], ("p", "q", 1))
        lost = bounds_of("b a", ("a", "b", 3), ("b", "a", 0))
        self.refused(NoFile, "x", fewest_looks, plan, bounds_of("a x b y", ("a", "b", 0)), "z")
        self.refused(NoFile, "z", fewest_looks, plan, lost, "a", "z", "y")
        self.refused(NoFile, "p", fewest_looks, plan, lost, "p")
        for name in [None, 1, True, ["a"], Hostile()]:
            self.refused(NoFile, name, fewest_looks, plan, lost, name, "x")
        self.refused(NotKept, ("b", "a"), fewest_looks, plan, lost)
        self.refused(NotKept, ("a", "b"), fewest_looks, plan, bounds_of("a b", ("a", "b", 3), ("b", "a", 0)), "b")


class BridgedTest(Case):
    def test_ways_there_and_back(self):
        plan = plan_of([("p", "a"), ("q", "b"), ("r", "c")], ("q", "r", 2), ("r", "p", 3))
        for n, expected in [(None, True), (4, False), (5, True), (6, True), (-1, False), (10 ** 59, True)]:
            self.assertIs(bridged(plan, bounds_of("a b", ("a", "b", n)), "a", "b", "c"), expected)
        wishes = bounds_of("b a", ("a", "b", 9), ("b", "a", 9))
        self.assertIs(bridged(plan, wishes, "a", "b", "c"), True)
        self.assertIs(bridged(plan, wishes, "b", "a", "c"), False)
        plan["r", "p"] = None
        self.assertIs(bridged(plan, wishes, "a", "b", "c"), False)
        plan["r", "p"], plan["q", "r"] = 3, None
        self.assertIs(bridged(plan, wishes, "a", "b", "c"), False)
        plan["q", "p"] = 9
        self.assertIs(bridged(plan, wishes, "a", "b", "a"), True)
        self.assertIs(bridged(plan, wishes, "a", "b", "b"), True)

    def test_drawn_plans(self):
        random = Random(9)
        for _ in range(60):
            plan = drawn_plan(random, 3, 4, 2)
            wishes = drawn_wishes(random, list(plan.files[:3]), -1, 5)
            for a, b in permutations(wishes.names, 2):
                for file in plan.files:
                    first, second = shift_between(plan, b, file), shift_between(plan, file, a)
                    n = wishes[a, b]
                    expected = n is None or None not in (first, second) and first + second <= n
                    self.assertIs(bridged(plan, wishes, a, b, file), expected)

    def test_errors_in_their_order(self):
        plan = plan_of([("p", "a"), ("q", "b"), ("r", "c")])
        wishes = bounds_of("a b x y")
        self.refused(NoFile, "z", bridged, plan, wishes, "z", "w", "v")
        self.refused(NoFile, "c", bridged, plan, wishes, "x", "c", "v")
        self.refused(NoFile, "x", bridged, plan, wishes, "x", "x", "v")
        self.refused(NoFile, "y", bridged, plan, wishes, "a", "y", "v")
        self.refused(NoFile, "v", bridged, plan, wishes, "a", "a", "v")
        self.refused(SameFile, "a", bridged, plan, wishes, "a", "a", "c")
        for name in [None, 1, ["a"], Hostile()]:
            self.refused(NoFile, name, bridged, plan, wishes, name, "z", "v")
            self.refused(NoFile, name, bridged, plan, wishes, "a", name, "v")
            self.refused(NoFile, name, bridged, plan, wishes, "a", "a", name)
