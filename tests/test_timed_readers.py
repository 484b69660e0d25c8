"""timed_taken and timed_run_for: promises [55] and [56]."""

from itertools import product
from random import Random

from lookrows.bounds import Bounds
from lookrows.errors import BadGaps, BadNumber, NoFile, TooFar
from lookrows.plans import Plan
from lookrows.rows import Row
from lookrows.taking import taken
from lookrows.times import Timed, timed_run_for, timed_taken, timed_watched
from tests.cases import ANY, Case
from tests.clocks import drawn_timed, is_possible, slow_timed_taken, slow_within, timed_of, timed_state
from tests.readers import random_rows, row_of
from tests.samples import NOT_INTEGERS, Hostile, entries, great_plan, plan_of, slow_closed, slow_least

NO_GAPS = [None, 0, 1, "1", "", {0: 1}, {1}, range(1), Hostile(), object(), list, iter([1])]


def direct(timed, row, gaps):
    """The limits of the document for each pair of files, from all pairs of looks."""
    plan = timed.plan
    table = Bounds(row.files)

    def limit(a, b, n):
        if n is not None and (table[a, b] is None or n < table[a, b]):
            table[a, b] = n

    for i, one in enumerate(row.looks):
        for j in range(i + 1, len(row)):
            two = row[j]
            if one != two:
                limit(one, two, slow_least(plan, plan.step_of(two), plan.step_of(one)))
                most = slow_within(timed, plan.step_of(one), plan.step_of(two), sum(gaps[i:j]))
                limit(two, one, None if most is None else most + 1)
    return table


def drawn_readers(many, seed, steps=3, files=3, looks=5, gap=4):
    """Drawn timed plans with drawn rows and gaps."""
    random = Random(seed)
    for row in random_rows(many, [f"f{k}" for k in range(files)], looks, seed):
        timed = drawn_timed(random, random.randint(1, steps), files, 2, random.choice([0, 2, 4]), 3)
        yield timed, Row(row), [random.randint(0, gap) for _ in row[1:]]


class TimedReaderTest(Case):
    def right_run(self, timed, row, gaps, editions):
        """timed_run_for gives a timed run that shows the set and keeps the gaps; it is returned."""
        before = timed_state(timed), row.looks, list(gaps), dict(editions)
        items = timed_run_for(timed, row, gaps, editions)
        self.assertEqual((timed_state(timed), row.looks, list(gaps), editions), before)
        self.assertIsInstance(items, list)
        self.assertTrue(all(isinstance(item, tuple) for item in items))
        shown = timed_watched(timed, items)
        self.assertEqual([look[:3] for look in shown], [(0, file, editions[file]) for file in row.looks])
        for k, gap in enumerate(gaps):
            self.assertLessEqual(shown[k + 1][3] - shown[k][3], gap)
        return items


class TimedTakenTest(TimedReaderTest):
    def test_two_looks(self):
        timed = timed_of(plan_of([("p", "a"), ("q", "b")], ("p", "q", 0)), ("p", "q", 2), ("q", "q", 3))
        # While the reader goes from a to b, q can do what a had allowed before, and more.
        for gap, expected in [(0, 0), (1, 0), (2, 1), (4, 1), (5, 2), (30, 10)]:
            table = timed_taken(timed, row_of("ab"), [gap])
            self.assertEqual(entries(table), (("a", "b"), {("b", "a"): expected}))
        self.assertEqual(entries(timed_taken(timed, row_of("ba"), [7])), (("b", "a"), {("b", "a"): 0}))

    def test_files_of_one_step(self):
        timed = timed_of(plan_of([("p", "a", "b")]), ("p", "p", 10))
        self.assertEqual(entries(timed_taken(timed, row_of("ab"), [9])), (("a", "b"), {("a", "b"): 0, ("b", "a"): 1}))
        self.assertEqual(entries(timed_taken(timed, row_of("ab"), [10])), (("a", "b"), {("a", "b"): 0, ("b", "a"): 2}))
        both = {("a", "b"): 0, ("b", "a"): 0}
        self.assertEqual(entries(timed_taken(timed, row_of("aba"), [30, 30])), (("a", "b"), both))

    def test_the_smallest_limit_counts(self):
        timed = Timed(plan_of([("p", "a"), ("q", "b")], ("p", "q", 0)))
        self.assertEqual(timed_taken(timed, row_of("aab"), [9, 3])["b", "a"], 4)
        self.assertEqual(timed_taken(timed, row_of("abaab"), [9, 3, 8, 2])["b", "a"], 0)
        self.assertEqual(timed_taken(timed, row_of("abb"), [9, 3])["b", "a"], 10)

    def test_gaps_add_up(self):
        timed = Timed(plan_of([("p", "a"), ("q", "b"), ("r", "c")], ("p", "q", 0)))
        self.assertEqual(timed_taken(timed, row_of("acb"), [4, 5])["b", "a"], 10)
        self.assertEqual(timed_taken(timed, row_of("cacb"), (9, 4, 5))["b", "a"], 10)
        self.assertEqual(timed_taken(timed, row_of("acccb"), [0, 0, 0, 0])["b", "a"], 1)

    def test_lists_and_tuples(self):
        timed = Timed(plan_of([("p", "a", "b")]))
        for gaps in ([3, 5], (3, 5)):
            self.assertEqual(timed_taken(timed, row_of("aab"), gaps)["b", "a"], 6)

    def test_rows_without_looks_and_with_one(self):
        timed = Timed(plan_of([("p", "a")]))
        for gaps in ([], ()):
            self.assertEqual(entries(timed_taken(timed, Row([]), gaps)), ((), {}))
            self.assertEqual(entries(timed_taken(timed, row_of("a"), gaps)), (("a",), {}))
            self.right_run(timed, Row([]), gaps, {})
            self.right_run(timed, row_of("a"), gaps, {"a": 60})
        self.refused(BadGaps, ANY, timed_taken, timed, Row([]), [0])
        self.refused(BadGaps, ANY, timed_taken, timed, row_of("a"), [0])
        self.assertEqual(entries(timed_taken(Timed(Plan()), Row([]), [])), ((), {}))

    def test_drawn_tables_by_the_slow_definition(self):
        for timed, row, gaps in drawn_readers(120, 1, 4, 4, 6, 6):
            table = timed_taken(timed, row, gaps)
            self.assertEqual(entries(table), slow_closed(direct(timed, row, gaps)))
            self.assertEqual(table.names, row.files)

    def test_all_timed_runs_of_small_plans(self):
        some = 0
        for timed, row, gaps in drawn_readers(120, 2, 2, 2, 3, 1):
            slow = slow_timed_taken(timed, row.looks, gaps, 2, 8)
            expected = sorted(tuple(edition for _, edition in seen) for seen in slow)
            found = list(timed_taken(timed, row, gaps).sets(2))
            self.assertEqual(found, expected, (timed_state(timed), row.looks, gaps))
            some += len(expected) < 3 ** len(row.files)
        self.assertGreater(some, 15)

    def test_all_that_has_to_precede(self):
        for timed, row, gaps in drawn_readers(100, 3, 3, 3, 6, 5):
            table = timed_taken(timed, row, gaps)
            for values in product(range(4), repeat=len(row.files)):
                editions = dict(zip(row.files, values))
                self.assertIs(editions in table, is_possible(timed, row.looks, gaps, editions))

    def test_great_gaps_come_to_what_is_taken_without_times(self):
        for timed, row, gaps in drawn_readers(60, 5, 4, 4, 6):
            plan = timed.plan
            timed = Timed(plan)
            table = timed_taken(timed, row, [1000 for _ in gaps])
            less = taken(plan, row)
            for a, b in product(row.files, repeat=2):
                if less[a, b] is not None:
                    self.assertEqual(table[a, b], less[a, b])
                else:
                    self.assertTrue(table[a, b] is None or table[a, b] > 900)
            self.assertTrue(timed_taken(timed, row, gaps) <= less)

    def test_a_great_plan(self):
        timed = Timed(great_plan())
        row = Row([f"f{k // 4}" for k in range(40)])
        table = timed_taken(timed, row, [30] * 39)
        self.assertEqual(table["f0", "f1"], taken(timed.plan, row)["f0", "f1"])
        self.assertEqual(table["f1", "f0"], 1 + timed.within("s0", "s1", 30))
        self.assertEqual(table.names, row.files)

    def test_errors_in_their_order(self):
        timed = Timed(plan_of([("p", "a"), ("q", "b")]))
        self.refused(NoFile, "x", timed_taken, timed, row_of("axy"), None)
        self.refused(NoFile, "p", timed_taken, timed, Row(["p"]), [])
        for gaps in NO_GAPS + [[], (), [1, 2], (1, 2), [[1]], ["1"]] + [[value] for value in NOT_INTEGERS]:
            self.refused(BadGaps, ANY, timed_taken, timed, row_of("ab"), gaps)
        for gaps in ([-1], [None], [Hostile()], (True,)):
            self.refused(BadGaps, ANY, timed_taken, timed, row_of("ab"), gaps)
        for gaps in ([1, 2], [1, 2, 3, 4], [1, 2, -1], [True, 1, 1], [1, "1", 1]):
            self.refused(BadGaps, ANY, timed_taken, timed, row_of("abab"), gaps)

    def test_what_is_passed_stays_and_what_is_returned_is_new(self):
        timed = timed_of(plan_of([("p", "a"), ("q", "b")], ("p", "q", 0)), ("p", "q", 2))
        gaps = [4]
        before = timed_state(timed)
        table = timed_taken(timed, row_of("ab"), gaps)
        table["b", "a"] = 0
        self.assertEqual((timed_state(timed), gaps), (before, [4]))
        again = timed_taken(timed, row_of("ab"), gaps)
        gaps[0] = 0
        timed["p", "q"] = 60
        self.assertEqual(again["b", "a"], 3)


class TimedRunForTest(TimedReaderTest):
    def test_runs(self):
        timed = timed_of(plan_of([("p", "a"), ("q", "b")], ("p", "q", 0)), ("p", "q", 2), ("q", "q", 3))
        self.right_run(timed, row_of("ab"), [2], {"a": 4, "b": 5})
        self.right_run(timed, row_of("ab"), [2], {"a": 4, "b": 0})
        self.right_run(timed, row_of("abab"), [0, 0, 0], {"a": 4, "b": 4})
        self.right_run(timed, row_of("abab"), (1, 2, 3), {"a": 60, "b": 0, "c": -1, None: "x"})
        self.right_run(timed, row_of("ab"), [30], {"a": 50, "b": 60})

    def test_late_looks_draw_the_looks_before_them(self):
        timed = timed_of(plan_of([("p", "a"), ("q", "b"), ("r", "c")]), ("q", "q", 50))
        items = self.right_run(timed, row_of("abc"), [3, 0], {"a": 1, "b": 4, "c": 0})
        self.assertGreaterEqual([item[3] for item in items if item[0] == "look"][0], 147)
        # What has to follow the first look is drawn as well.
        timed = timed_of(plan_of([("p", "a"), ("q", "b"), ("r", "c")], ("p", "r", 0)), ("q", "q", 50), ("p", "r", 9))
        items = self.right_run(timed, row_of("abc"), [3, 9], {"a": 1, "b": 4, "c": 2})
        self.assertEqual(items[-1][0], "look")
        self.refused(TooFar, ("c", "a"), timed_run_for, timed, row_of("abc"), [3, 5], {"a": 1, "b": 4, "c": 2})

    def test_too_far(self):
        timed = timed_of(plan_of([("p", "a"), ("q", "b")], ("p", "q", 0)), ("p", "q", 2), ("q", "q", 3))
        self.refused(TooFar, ("b", "a"), timed_run_for, timed, row_of("ab"), [1], {"a": 4, "b": 5})
        self.refused(TooFar, ("b", "a"), timed_run_for, timed, row_of("ba"), [1], {"a": 4, "b": 5})
        self.refused(TooFar, ("b", "a"), timed_run_for, timed, row_of("ab"), [5], {"a": 4, "b": 7})

    def test_the_limit_of_the_pair_alone_counts(self):
        rules = [("q", "p", 0), ("r", "q", 0), ("r", "p", 9)]
        timed = timed_of(plan_of([("p", "a"), ("q", "b"), ("r", "c")], *rules))
        # The limit for a and c comes from the way over b, so it holds for the pair alone, too.
        found = self.refused(TooFar, ANY, timed_run_for, timed, row_of("abc"), [30, 30], {"a": 5, "b": 4, "c": 4})
        self.assertIn((found.first, found.second), [("a", "b"), ("a", "c")])
        # Without such a way only the two pairs in between have limits.
        timed = timed_of(plan_of([("p", "a", "b"), ("q", "c", "d")]), ("p", "p", 60), ("q", "q", 60))
        self.refused(TooFar, ("b", "a"), timed_run_for, timed, row_of("ab"), [3], {"a": 3, "b": 5})

    def test_each_set_of_drawn_plans(self):
        taking = far = 0
        for timed, row, gaps in drawn_readers(100, 6, 3, 3, 6, 5):
            table = timed_taken(timed, row, gaps)
            limits = direct(timed, row, gaps)
            for values in product(range(4), repeat=len(row.files)):
                editions = dict(zip(row.files, values))
                if editions in table:
                    taking += 1
                    self.right_run(timed, row, gaps, editions)
                else:
                    far += 1
                    found = self.refused(TooFar, ANY, timed_run_for, timed, row, gaps, editions)
                    limit = limits[found.first, found.second]
                    self.assertGreater(editions[found.first], editions[found.second] + limit)
        self.assertGreater(min(taking, far), 500)

    def test_greater_plans(self):
        random = Random(7)
        many = 0
        for timed, row, gaps in drawn_readers(60, 8, 12, 10, 30, 30):
            table = timed_taken(timed, row, gaps)
            editions = {file: 57 for file in row.files}
            for _ in range(20):
                x = dict(editions)
                for file in row.files:
                    x[file] = max(0, min(60, x[file] + random.choice([-1, 0, 0, 1, 2])))
                if x in table:
                    editions = x
            many += len(set(editions.values())) > 2
            self.right_run(timed, row, gaps, editions)
        self.assertGreater(many, 5)

    def test_errors_in_their_order(self):
        timed = Timed(plan_of([("p", "a"), ("q", "b")], ("p", "q", 0)))
        row = row_of("ba")
        self.refused(NoFile, "x", timed_run_for, timed, row_of("abxy"), None, {})
        self.refused(NoFile, "b", timed_run_for, timed, row, None, {"a": -1})
        self.refused(NoFile, "a", timed_run_for, timed, row, None, {"b": -1})
        for value in NOT_INTEGERS + [None, -1, Hostile()]:
            self.refused(BadNumber, value, timed_run_for, timed, row, None, {"a": value, "b": 1})
            self.refused(BadNumber, value, timed_run_for, timed, row, [-1], {"a": -2, "b": value})
        for gaps in NO_GAPS + [[], (), [1, 2], [-1], [True], ["1"], [1.0]]:
            self.refused(BadGaps, ANY, timed_run_for, timed, row, gaps, {"a": 1, "b": 9})
        self.refused(TooFar, ("b", "a"), timed_run_for, timed, row, [1], {"a": 1, "b": 9})

    def test_what_is_returned_is_new(self):
        timed = Timed(plan_of([("p", "a")]))
        timed_run_for(timed, row_of("a"), [], {"a": 2}).clear()
        self.right_run(timed, row_of("a"), [], {"a": 2})
