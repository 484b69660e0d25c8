"""taken, run_for and reaching: promises [34] to [39]."""

from itertools import product
from random import Random

from lookrows.bounds import Bounds
from lookrows.errors import BadNumber, Barred, NoFile, NoSet, SameFile
from lookrows.plans import Plan
from lookrows.rows import Row
from lookrows.runs import watched
from lookrows.taking import reaching, run_for, taken
from tests.cases import ANY, Case
from tests.readers import check_pieces, drawn_plan, drawn_run, random_rows, row_of, slow_taken
from tests.samples import (
    NOT_INTEGERS, Hostile, bounds_of, entries, great_plan, has_set, plan_of, ring_sum, slow_closed, slow_entry,
    slow_least, state,
)


def direct(plan, row):
    """The entries of the main statement as a table, from all pairs of looks and all ways."""
    table = Bounds(row.files)
    for i, a in enumerate(row.looks):
        for b in row.looks[i + 1:]:
            if a != b:
                table[a, b] = slow_least(plan, plan.step_of(b), plan.step_of(a))
    return table


def small_readers(many, seed):
    """Drawn plans of up to 3 steps and 4 files with drawn rows over them."""
    random = Random(seed)
    for looks in random_rows(many, ["f0", "f1", "f2", "f3"], 6, seed):
        yield drawn_plan(random, random.randint(1, 3), 4, 2), Row(looks)


class TakingTest(Case):
    def right_run(self, plan, row, editions, items):
        """The items are a run with just the looks of the row, which show the editions."""
        self.assertIsInstance(items, list)
        self.assertEqual(watched(plan, items), [(0, file, editions[file]) for file in row.looks])


class TakenTest(TakingTest):
    def test_one_look_before_the_other(self):
        plan = plan_of([("p", "a"), ("q", "b")], ("p", "q", 0))
        self.assertEqual(entries(taken(plan, row_of("ab"))), (("a", "b"), {}))
        self.assertEqual(entries(taken(plan, row_of("ba"))), (("b", "a"), {("b", "a"): 0}))
        self.assertEqual(entries(taken(plan, row_of("aba"))), (("a", "b"), {("b", "a"): 0}))

    def test_files_of_one_step(self):
        plan = plan_of([("p", "a", "b")])
        self.assertEqual(entries(taken(plan, row_of("ab"))), (("a", "b"), {("a", "b"): 0}))
        self.assertEqual(entries(taken(plan, row_of("ba"))), (("b", "a"), {("b", "a"): 0}))
        both = {("a", "b"): 0, ("b", "a"): 0}
        self.assertEqual(entries(taken(plan, row_of("aba"))), (("a", "b"), both))

    def test_the_least_shift_counts(self):
        plan = plan_of([("p", "a"), ("q",), ("r", "c")], ("p", "q", 1), ("q", "r", 2), ("p", "r", 7), ("r", "p", 4))
        self.assertEqual(entries(taken(plan, row_of("ca"))), (("c", "a"), {("c", "a"): 3}))
        self.assertEqual(entries(taken(plan, row_of("ac"))), (("a", "c"), {("a", "c"): 4}))
        self.assertEqual(entries(taken(plan, row_of("cac"))), (("c", "a"), {("c", "a"): 3, ("a", "c"): 4}))

    def test_the_table_is_closed(self):
        plan = plan_of([("p", "a"), ("q", "b"), ("r", "c")], ("q", "p", 1), ("r", "q", 2))
        table = taken(plan, row_of("abc"))
        self.assertEqual(entries(table), (("a", "b", "c"), {("a", "b"): 1, ("b", "c"): 2, ("a", "c"): 3}))
        plan = plan_of([("p", "a"), ("q", "b"), ("r", "c")], ("p", "r", 9), ("q", "p", 1))
        checks = bounds_of("c b", ("b", "c", 2))
        self.assertEqual(entries(taken(plan, row_of("cab"), checks)), (
            ("c", "a", "b"),
            {("c", "a"): 9, ("c", "b"): 10, ("a", "b"): 1, ("a", "c"): 3, ("b", "c"): 2, ("b", "a"): 11},
        ))

    def test_rows_without_looks_and_with_one_file(self):
        plan = plan_of([("p", "a"), ("q", "b")], ("p", "q", 0))
        table = taken(plan, Row([]))
        self.assertEqual(entries(table), ((), {}))
        self.assertIn({}, table)
        self.assertEqual(entries(taken(Plan(), Row(()))), ((), {}))
        for looks in ["a", "aa", "aaaaa"]:
            self.assertEqual(entries(taken(plan, row_of(looks))), (("a",), {}))

    def test_all_runs_of_small_plans(self):
        some = 0
        for plan, row in small_readers(150, 1):
            expected = {tuple(edition for _, edition in seen) for seen in slow_taken(plan, row.looks, 2)}
            self.assertEqual(list(taken(plan, row).sets(2)), sorted(expected), (plan.rules(), row.looks))
            some += len(expected) < 3 ** len(row.files)
        self.assertGreater(some, 50)

    def test_all_small_rows_in_one_plan(self):
        plan = plan_of([("p", "a"), ("q", "b"), ("r", "c")], ("p", "q", 0), ("q", "r", 1), ("r", "p", 1))
        for count in range(5):
            for looks in product("abc", repeat=count):
                expected = {tuple(edition for _, edition in seen) for seen in slow_taken(plan, looks, 3)}
                self.assertEqual(list(taken(plan, Row(looks)).sets(3)), sorted(expected), looks)

    def test_drawn_runs(self):
        random = Random(2)
        took = 0
        for looks in random_rows(300, [f"f{k}" for k in range(6)], 8, 3):
            plan, row = drawn_plan(random, 4, 6, 3), Row(looks)
            seen = {}
            for _, file, edition in watched(plan, drawn_run(random, plan, [looks], 60))[:len(looks)]:
                seen.setdefault(file, set()).add(edition)
            if len(seen) == len(row.files) and all(len(editions) == 1 for editions in seen.values()):
                took += 1
                self.assertIn({file: min(seen[file]) for file in seen}, taken(plan, row))
        self.assertGreater(took, 100)

    def test_drawn_tables_by_the_slow_definition(self):
        random = Random(4)
        for looks in random_rows(60, [f"f{k}" for k in range(5)], 9, 5):
            plan, row = drawn_plan(random, 4, 5, 9), Row(looks)
            table = taken(plan, row)
            self.assertEqual(entries(table), slow_closed(direct(plan, row)))
            self.assertEqual(entries(table), entries(table.closed()))
            self.assertEqual(table.names, row.files)

    def test_a_great_plan(self):
        plan = great_plan()
        row = Row([f"f{7 * k % 10}" for k in range(40)])
        table = taken(plan, row)
        self.assertEqual(table.names, row.files)
        for a, b in product(row.files, repeat=2):
            self.assertEqual(table[a, b], plan["s" + b[1], "s" + a[1]])


class ChecksTest(TakingTest):
    def test_checks_over_some_files_in_any_order(self):
        plan = plan_of([("p", "a"), ("q", "b"), ("r", "c")], ("p", "q", 2))
        row = row_of("cab")
        self.assertEqual(entries(taken(plan, row, Bounds([]))), (("c", "a", "b"), {}))
        self.assertEqual(entries(taken(plan, row, bounds_of("b"))), (("c", "a", "b"), {}))
        table = taken(plan, row, bounds_of("b a c", ("b", "a", -1), ("a", "c", 3)))
        self.assertEqual(entries(table), (("c", "a", "b"), {("b", "a"): -1, ("a", "c"): 3, ("b", "c"): 2}))
        self.assertEqual(entries(taken(plan, row_of("bab"), bounds_of("a b", ("b", "a", 4)))), (
            ("b", "a"), {("b", "a"): 2},
        ))
        self.assertEqual(entries(taken(plan, row_of("bab"), bounds_of("a b", ("b", "a", 1)))), (
            ("b", "a"), {("b", "a"): 1},
        ))

    def test_none_as_checks(self):
        plan = plan_of([("p", "a", "b")])
        self.assertEqual(entries(taken(plan, row_of("ab"), None)), entries(taken(plan, row_of("ab"))))

    def test_just_the_sets_that_are_in_the_checks(self):
        random = Random(6)
        empty = 0
        for plan, row in small_readers(120, 7):
            names = random.sample(row.files, random.randint(0, len(row.files)))
            checks = Bounds(names)
            for a, b in product(names, repeat=2):
                if a != b and random.random() < 0.5:
                    checks[a, b] = random.randint(-2, 2)
            whole = direct(plan, row) & checks
            expected = []
            for editions in taken(plan, row).sets(3):
                x = dict(zip(row.files, editions))
                if {name: x[name] for name in names} in checks:
                    expected.append(editions)
            if not has_set(whole):
                empty += 1
                self.assertEqual(expected, [])
                members = self.refused(NoSet, ANY, taken, plan, row, checks).members
                self.assertIsInstance(members, tuple)
                self.assertEqual(len(set(members)), len(members))
                self.assertLess(ring_sum(whole, members), 0)
            else:
                table = taken(plan, row, checks)
                self.assertEqual(list(table.sets(3)), expected)
                self.assertEqual(entries(table), slow_closed(whole))
        self.assertGreater(empty, 5)

    def test_a_ring_below_zero(self):
        plan = plan_of([("p", "a"), ("q", "b")], ("p", "q", 2))
        taken(plan, row_of("ba"), bounds_of("a b", ("a", "b", -2)))
        members = self.refused(NoSet, ANY, taken, plan, row_of("ba"), bounds_of("a b", ("a", "b", -3))).members
        self.assertIn(members, [("a", "b"), ("b", "a")])
        taken(plan, row_of("ab"), bounds_of("a b", ("a", "b", -3)))

    def test_errors_in_their_order(self):
        plan = plan_of([("p", "a"), ("q", "b")])
        bad = bounds_of("a b", ("a", "b", -1), ("b", "a", 0))
        self.refused(NoFile, "x", taken, plan, row_of("axy"))
        self.refused(NoFile, "y", taken, plan, row_of("yaxy"), bounds_of("z"))
        self.refused(NoFile, "p", taken, plan, Row(["p"]))
        self.refused(NoFile, "b", taken, plan, row_of("a"), bounds_of("b a"))
        self.refused(NoFile, "z", taken, plan, row_of("ab"), bounds_of("b z a", ("a", "b", -1), ("b", "a", 0)))
        self.refused(NoFile, "y", taken, plan, row_of("aba"), bounds_of("y x"))
        self.refused(NoSet, ANY, taken, plan, row_of("ab"), bad)
        self.refused(NoFile, "x", taken, plan, row_of("xab"), bad)


class KeptTest(TakingTest):
    def test_what_is_passed_stays_and_what_is_returned_is_new(self):
        plan = plan_of([("p", "a"), ("q", "b")], ("p", "q", 1))
        row, checks = row_of("bab"), bounds_of("a b", ("a", "b", 3))
        before = state(plan), entries(checks), row.looks
        table = taken(plan, row, checks)
        table["a", "b"] = 0
        table["b", "a"] = None
        table &= bounds_of("c")
        again = taken(plan, row, checks)
        self.assertEqual(entries(again), (("b", "a"), {("b", "a"): 1, ("a", "b"): 3}))
        plan["p", "q"] = 5
        checks["a", "b"] = 9
        self.assertEqual(entries(again), (("b", "a"), {("b", "a"): 1, ("a", "b"): 3}))
        plan["p", "q"] = 1
        checks["a", "b"] = 3
        editions = {"a": 2, "b": 3}
        run_for(plan, row, editions).clear()
        reaching(plan, row, "a", "b").clear()
        self.right_run(plan, row, editions, run_for(plan, row, editions))
        self.assertEqual(editions, {"a": 2, "b": 3})
        self.refused(Barred, ANY, run_for, plan, row, {"a": 0, "b": 2})
        self.refused(NoSet, ANY, taken, plan, row, bounds_of("a b", ("a", "b", -2)))
        self.assertEqual((state(plan), entries(checks), row.looks), before)


class RunForTest(TakingTest):
    def test_runs(self):
        plan = plan_of([("p", "a"), ("q", "b"), ("r",)], ("p", "r", 1), ("r", "q", 0))
        for looks, editions in [
            ("ab", {"a": 0, "b": 60}), ("ab", {"a": 60, "b": 0}), ("ba", {"b": 3, "a": 2}), ("ba", {"b": 0, "a": 9}),
            ("aabbabab", {"b": 5, "a": 4}), ("a", {"a": 60}), ("bb", {"b": 7}), ("ab", {"a": 0, "b": 0}),
        ]:
            row = row_of(looks)
            self.right_run(plan, row, editions, run_for(plan, row, editions))

    def test_rows_without_looks(self):
        plan = plan_of([("p", "a")])
        self.right_run(plan, Row([]), {}, run_for(plan, Row([]), {}))
        self.right_run(plan, Row([]), {}, run_for(plan, Row([]), {"a": None, "x": 3}))

    def test_other_keys(self):
        plan = plan_of([("p", "a"), ("q", "b")])
        editions = {"b": 3, None: 1, 7: "x", "q": -1, "a": 2, "c": Hostile(), ("a",): True}
        self.right_run(plan, row_of("ab"), editions, run_for(plan, row_of("ab"), editions))
        self.assertEqual(len(editions), 7)

    def test_each_set_of_drawn_plans(self):
        taking = barred = 0
        for plan, row in small_readers(120, 8):
            for values in product(range(3), repeat=len(row.files)):
                editions = dict(zip(row.files, values))
                if editions in taken(plan, row):
                    taking += 1
                    self.right_run(plan, row, editions, run_for(plan, row, editions))
                else:
                    barred += 1
                    pieces = self.refused(Barred, ANY, run_for, plan, row, editions).pieces
                    self.right_piece(plan, row, editions, pieces)
        self.assertGreater(min(taking, barred), 500)

    def right_piece(self, plan, row, editions, pieces):
        self.assertEqual(len(pieces), 1)
        self.assertEqual(len(pieces[0]), 4)
        reader, first, second, _ = pieces[0]
        self.assertIs(reader.__class__, int)
        self.assertEqual(reader, 0)
        self.assertTrue(0 <= first < second < len(row))
        check_pieces(self, plan, [[(file, editions[file]) for file in row.looks]], pieces)

    def test_what_bars_a_set(self):
        plan = plan_of([("p", "a"), ("q", "b"), ("r",), ("s", "c")], ("p", "r", 1), ("r", "q", 2), ("s", "p", 0))
        pieces = self.refused(Barred, ANY, run_for, plan, row_of("ba"), {"a": 2, "b": 6}).pieces
        self.assertEqual(pieces, ((0, 0, 1, ("p", "r", "q")),))
        self.right_run(plan, row_of("ba"), {"a": 2, "b": 5}, run_for(plan, row_of("ba"), {"a": 2, "b": 5}))
        # Only the second look at a comes behind the look at b.
        pieces = self.refused(Barred, ANY, run_for, plan, row_of("aaba"), {"a": 0, "b": 4}).pieces
        self.assertEqual(pieces, ((0, 2, 3, ("p", "r", "q")),))
        pieces = self.refused(Barred, ANY, run_for, plan, row_of("bacaba"), {"a": 3, "b": 5, "c": 2}).pieces
        self.right_piece(plan, row_of("bacaba"), {"a": 3, "b": 5, "c": 2}, pieces)
        self.assertIn(pieces[0][1:], [(1, 2, ("s", "p"))])

    def test_files_of_one_step(self):
        plan = plan_of([("p", "a", "b")])
        pieces = self.refused(Barred, ANY, run_for, plan, row_of("ab"), {"a": 60, "b": 59}).pieces
        self.assertEqual(pieces, ((0, 0, 1, ("p",)),))
        self.right_run(plan, row_of("ab"), {"a": 59, "b": 60}, run_for(plan, row_of("ab"), {"a": 59, "b": 60}))

    def test_great_plans_and_rows(self):
        plan = great_plan()
        row = Row([f"f{7 * k % 10}" for k in range(40)])
        count = 0
        for file in row.files:
            for edition in (0, 35, 45, 50, 55, 57, 60):
                x = {f"f{k}": 50 for k in range(10)}
                x[file] = edition
                if x in taken(plan, row):
                    count += 1
                    self.right_run(plan, row, x, run_for(plan, row, x))
                else:
                    self.right_piece(plan, row, x, self.refused(Barred, ANY, run_for, plan, row, x).pieces)
        self.assertGreater(count, 5)
        self.right_run(plan, row_of(["f1"]), {"f1": 300}, run_for(plan, row_of(["f1"]), {"f1": 300}))

    def test_errors_in_their_order(self):
        plan = plan_of([("p", "a"), ("q", "b")], ("p", "q", 0))
        self.refused(NoFile, "x", run_for, plan, row_of("axy"), {"a": None, "y": 1})
        self.refused(NoFile, "p", run_for, plan, Row(["p"]), {"p": 1})
        self.refused(NoFile, "x", run_for, plan, row_of("abx"), {"b": -1})
        self.refused(NoFile, "b", run_for, plan, row_of("aba"), {"a": -1})
        self.refused(NoFile, "a", run_for, plan, row_of("aba"), {"b": True})
        self.refused(NoFile, "a", run_for, plan, row_of("aba"), {})
        self.refused(BadNumber, True, run_for, plan, row_of("ba"), {"a": True, "b": 9})
        self.refused(BadNumber, "9", run_for, plan, row_of("ba"), {"a": True, "b": "9"})
        for value in NOT_INTEGERS + [None, -1, -60, Hostile()]:
            self.refused(BadNumber, value, run_for, plan, row_of("baa"), {"a": value, "b": 1})
            self.refused(BadNumber, value, run_for, plan, row_of("baa"), {"a": -2, "b": value})


class ReachingTest(TakingTest):
    def check(self, plan, row, first, second, difference, **more):
        items = reaching(plan, row, first, second, **more)
        editions = {file: edition for _, file, edition in watched(plan, items)}
        self.right_run(plan, row, editions, items)
        self.assertEqual(editions[first] - editions[second], difference)

    def test_entries_that_are_integers(self):
        plan = plan_of([("p", "a"), ("q", "b"), ("r", "c")], ("q", "p", 3), ("r", "q", 60))
        self.check(plan, row_of("ab"), "a", "b", 3)
        self.check(plan, row_of("bc"), "b", "c", 60)
        self.check(plan, row_of("ab"), "a", "b", 3, apart=7)
        self.check(plan, row_of("ab"), "a", "b", 3, apart=0)
        self.check(plan, row_of("ababa"), "a", "b", 3)
        self.check(plan_of([("p", "a", "b")]), row_of("aba"), "b", "a", 0, apart=5)

    def test_entries_that_are_none(self):
        plan = plan_of([("p", "a"), ("q", "b"), ("r", "c")], ("q", "p", 3), ("p", "q", 1))
        for apart in (0, 1, 2, 39, 40, 41, 60):
            self.check(plan, row_of("ab"), "b", "a", apart, apart=apart)
            self.check(plan, row_of("abcab"), "c", "a", apart, apart=apart)
            self.check(plan, row_of("abcab"), "a", "c", apart, apart=apart)
        self.check(plan, row_of("ab"), "b", "a", 0)

    def test_an_entry_that_only_a_path_gives(self):
        plan = plan_of([("p", "a"), ("q", "b"), ("r", "c")], ("q", "p", 1), ("r", "q", 2))
        self.check(plan, row_of("abc"), "a", "c", 3)
        self.check(plan, row_of("abca"), "a", "c", 3, apart=9)
        self.check(plan, row_of("abca"), "c", "a", 9, apart=9)

    def test_drawn_rows(self):
        random = Random(9)
        for plan, row in small_readers(150, 10):
            if len(row.files) > 1:
                first, second = random.sample(row.files, 2)
                apart = random.randint(0, 40)
                entry = slow_entry(direct(plan, row), first, second)
                self.check(plan, row, first, second, apart if entry is None else entry, apart=apart)

    def test_a_great_row(self):
        plan = great_plan()
        row = Row([f"f{3 * k % 10}" for k in range(40)])
        for a, b in product(row.files, repeat=2):
            if a != b and taken(plan, row)[a, b] <= 60:
                self.check(plan, row, a, b, taken(plan, row)[a, b])

    def test_errors_in_their_order(self):
        plan = plan_of([("p", "a"), ("q", "b")], ("p", "q", 0))
        row = row_of("ab")
        self.refused(NoFile, "x", reaching, plan, row_of("xya"), "z", "z", apart=-1)
        self.refused(NoFile, "z", reaching, plan, row, "z", "y", apart=-1)
        self.refused(NoFile, "z", reaching, plan, row, "z", "z", apart=-1)
        self.refused(NoFile, "z", reaching, plan, row, "a", "z", apart=-1)
        self.refused(NoFile, "b", reaching, plan, row_of("a"), "a", "b")
        for name in [None, 0, True, ["a"], ("a",), b"a", Hostile()]:
            self.refused(NoFile, name, reaching, plan, row, name, "y", apart=-1)
            self.refused(NoFile, name, reaching, plan, row, "b", name, apart=-1)
        self.refused(SameFile, "b", reaching, plan, row, "b", "b", apart=-1)
        for value in NOT_INTEGERS + [None, -1, "1", Hostile()]:
            self.refused(BadNumber, value, reaching, plan, row, "a", "b", apart=value)
            self.refused(BadNumber, value, reaching, plan, row_of("bab"), "b", "a", apart=value)

    def test_apart_is_passed_by_its_name(self):
        with self.assertRaises(TypeError):
            reaching(plan_of([("p", "a"), ("q", "b")]), row_of("ab"), "a", "b", 3)
