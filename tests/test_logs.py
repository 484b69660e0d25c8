"""run_of and sure: promises [48] to [51]."""

import unittest
from itertools import permutations
from random import Random

from lookrows.errors import BadNumber, Barred, NoFile
from lookrows.logs import run_of, sure
from lookrows.plans import Plan
from lookrows.runs import counted, watched
from tests.readers import check_pieces, drawn_plan, drawn_run, looks_of, number_by_looks, slow_ends, slow_number
from tests.samples import NOT_INTEGERS, Hostile, great_plan, plan_of, slow_least, state


def drawn_logs(random, plan, readers, most, items):
    """The logs of readers in a drawn run, with at most so many looks each."""
    rows = [[random.choice(plan.files) for _ in range(random.randint(0, most))] for _ in range(readers)]
    logs = [[] for _ in rows]
    for reader, file, edition in watched(plan, drawn_run(random, plan, rows, items)):
        if len(logs[reader]) < most:
            logs[reader].append((file, edition))
    return logs


def spoiled(random, logs):
    """The logs with an edition raised or lowered, or with two looks exchanged."""
    made = [list(log) for log in logs]
    places = [(reader, place) for reader, log in enumerate(made) for place in range(len(log))]
    if places:
        reader, place = random.choice(places)
        log = made[reader]
        if random.random() < 0.4:
            other = random.randrange(len(log))
            log[place], log[other] = log[other], log[place]
        else:
            file, edition = log[place]
            log[place] = file, max(0, edition + random.choice([-2, -1, 1, 2, 3]))
    return made


class LogsTest(unittest.TestCase):
    def shown(self, plan, logs):
        """run_of gives a run that shows the logs, and changes nothing."""
        before = state(plan), [list(log) for log in logs]
        items = run_of(plan, logs)
        self.assertIsInstance(items, list)
        self.assertEqual((state(plan), [list(log) for log in logs]), before)
        looks = watched(plan, items)
        self.assertEqual(sorted(looks, key=lambda look: look[0]), looks_of(logs))
        return items

    def barred(self, plan, logs, many=None):
        """Both functions raise Barred with a ring of this many pieces."""
        before = state(plan), [list(log) for log in logs]
        for function in (run_of, sure):
            with self.assertRaises(Barred) as caught:
                function(plan, logs)
            pieces = caught.exception.pieces
            check_pieces(self, plan, logs, pieces)
            if many is not None:
                self.assertEqual(len(pieces), many)
        self.assertEqual((state(plan), [list(log) for log in logs]), before)
        return pieces

    def refused(self, error, told, plan, logs):
        for function in (run_of, sure):
            with self.assertRaises(error) as caught:
                function(plan, logs)
            self.assertIs(caught.exception.__class__, error)
            found = caught.exception.name if error is NoFile else caught.exception.value
            self.assertTrue(found is told or isinstance(told, str) and found == told)


class RunOfTest(LogsTest):
    def test_no_logs_and_empty_logs(self):
        for plan in [Plan(), plan_of([("p", "a"), ("q", "b")], ("p", "q", 1))]:
            for logs in [[], [[]], [[], []], [[] for _ in range(8)]]:
                self.shown(plan, logs)

    def test_one_log(self):
        plan = plan_of([("p", "a"), ("q", "b")], ("p", "q", 0))
        self.shown(plan, [[("a", 0), ("b", 0)]])
        self.shown(plan, [[("a", 3), ("a", 3), ("b", 2), ("a", 7), ("b", 5), ("b", 60), ("a", 60)]])
        self.shown(plan, [[("b", 60)]])
        self.shown(plan, [[], [("b", 5), ("a", 5)], []])

    def test_readers_that_saw_parts(self):
        plan = plan_of([("p", "a"), ("q", "b")])
        items = self.shown(plan, [[("a", 1), ("b", 0)], [("b", 0), ("a", 0), ("b", 2)]])
        self.assertEqual([item[1] for item in items if item[0] == "look"].count(1), 3)

    def test_one_piece(self):
        plan = plan_of([("p", "a"), ("x",), ("q", "b")], ("p", "x", 1), ("x", "q", 2))
        self.shown(plan, [[("b", 5), ("a", 2)]])
        self.assertEqual(self.barred(plan, [[("b", 6), ("a", 2)]]), ((0, 0, 1, ("p", "x", "q")),))
        self.assertEqual(self.barred(plan, [[], [("a", 2), ("b", 6), ("a", 2)]]), ((1, 1, 2, ("p", "x", "q")),))

    def test_editions_that_fall(self):
        plan = plan_of([("p", "a", "b")])
        self.assertEqual(self.barred(plan, [[("a", 2), ("a", 1)]]), ((0, 0, 1, ("p",)),))
        self.barred(plan, [[("a", 60), ("b", 59)]], 1)
        self.shown(plan, [[("a", 59), ("b", 60)]])

    def test_two_pieces(self):
        plan = plan_of([("p", "a"), ("q", "b")])
        logs = [[("a", 0), ("b", 1)], [("b", 0), ("a", 1)]]
        self.shown(plan, logs)
        logs = [[("a", 1), ("b", 0)], [("b", 1), ("a", 0)]]
        pieces = self.barred(plan, logs, 2)
        self.assertEqual(sorted(pieces), [(0, 0, 1, ("q",)), (1, 0, 1, ("p",))])
        self.barred(plan, [[], [("a", 1), ("a", 1), ("b", 0), ("b", 1)], [("b", 0), ("b", 1), ("a", 0), ("a", 7)]], 2)

    def test_rings_of_many_pieces(self):
        for many in range(2, 9):
            files = [f"f{k}" for k in range(many)]
            plan = plan_of([(f"s{k}", files[k]) for k in range(many)])
            logs = [[(files[k], 1), (files[(k + 1) % many], 0)] for k in range(many)]
            pieces = self.barred(plan, logs, many)
            self.assertEqual({piece[:3] for piece in pieces}, {(k, 0, 1) for k in range(many)})
            self.shown(plan, logs[1:])
            longer = [[(file, 0) for file in files] + log + [(file, 1) for file in files] for log in logs]
            self.barred(plan, longer[:8], None)

    def test_a_piece_of_one_look(self):
        # Reader 1 has a look alone: it is behind what reader 0 saw, and before what reader 0 saw earlier.
        plan = plan_of([("p", "a"), ("q", "b"), ("r", "c")], ("p", "r", 0), ("r", "q", 0))
        self.barred(plan, [[("b", 1), ("a", 0)]], 1)
        plan = plan_of([("p", "a"), ("q", "b")])
        self.shown(plan, [[("b", 1), ("a", 0)], [("a", 5)], [("b", 0)]])

    def test_the_fewest_pieces(self):
        random = Random(1)
        found = {}
        for _ in range(400):
            plan = drawn_plan(random, 4, 4, 2)
            for p, q, _ in plan.rules():
                if random.random() < 0.9:
                    plan[p, q] = None
            # Each reader sees much of one file before little of the next one, mostly.
            logs = []
            for k in range(random.choice([3, 4, 4, 4])):
                follower = k + 1 if random.random() < 0.9 else random.randrange(4)
                logs.append([(f"f{k}", random.randint(1, 2)), (f"f{follower % 4}", 0)])
            random.shuffle(logs)
            many = slow_number(plan, logs)
            found[many] = found.get(many, 0) + 1
            if many is None:
                self.shown(plan, logs)
            else:
                self.barred(plan, logs, many)
        self.assertTrue(min(found.get(many, 0) for many in (None, 1, 2, 3, 4)) > 3, found)

    def test_the_fewest_pieces_of_any_looks(self):
        random = Random(10)
        for _ in range(300):
            plan = drawn_plan(random, random.randint(1, 4), random.randint(2, 4), random.choice([1, 2, 9]))
            logs = [
                [(random.choice(plan.files), random.randint(0, 2)) for _ in range(random.randint(0, 3))]
                for _ in range(3)
            ]
            many = slow_number(plan, logs)
            if many is None:
                self.shown(plan, logs)
            else:
                self.barred(plan, logs, many)

    def test_the_fewest_pieces_of_longer_logs(self):
        random = Random(11)
        found = {}
        for _ in range(500):
            count = random.randint(3, 6)
            plan = plan_of([(f"s{k}", f"f{k}") for k in range(count + 4)])
            logs = []
            for k in range(count):
                # Each reader sees much of one file before little of the next one, and something else around it.
                log = [(f"f{k}", 1), (f"f{(k + 1) % count}", 0)]
                for _ in range(random.randint(0, 2)):
                    other = f"f{random.randrange(count, count + 4)}", random.randint(0, 2)
                    log.insert(random.randint(0, len(log)), other)
                logs.append(log)
            if random.random() < 0.6:
                del random.choice(logs)[random.randint(0, 1)]
            if random.random() < 0.5:
                plan["s0", f"s{count}"] = random.randint(0, 1)
            random.shuffle(logs)
            many = number_by_looks(plan, logs)
            found[many] = found.get(many, 0) + 1
            if many is None:
                self.shown(plan, logs)
            else:
                self.barred(plan, logs, many)
        self.assertTrue(min(found.get(many, 0) for many in (None, 1, 2, 3, 4, 5)) > 3, found)

    def test_all_runs_of_small_plans(self):
        random = Random(2)
        shown = barred = 0
        for _ in range(150):
            plan = drawn_plan(random, random.randint(1, 3), 3, 2)
            logs = [[(random.choice(plan.files), random.randint(0, 2)) for _ in range(2)] for _ in range(2)]
            if slow_ends(plan, logs):
                shown += 1
                self.shown(plan, logs)
            else:
                barred += 1
                self.barred(plan, logs, slow_number(plan, logs))
        self.assertGreater(min(shown, barred), 30)

    def test_drawn_runs(self):
        random = Random(3)
        for _ in range(150):
            plan = drawn_plan(random, random.randint(1, 6), random.randint(1, 6), 3)
            logs = drawn_logs(random, plan, random.randint(0, 5), 8, 80)
            self.shown(plan, logs)
            wrong = spoiled(random, logs)
            many = slow_number(plan, wrong) if sum(map(len, wrong)) < 9 else None
            try:
                self.shown(plan, wrong)
                self.assertIsNone(many)
            except Barred:
                self.barred(plan, wrong, many)

    def test_one_piece_for_one_log(self):
        random = Random(4)
        barred = 0
        for _ in range(200):
            plan = drawn_plan(random, random.randint(1, 5), 5, 3)
            log = spoiled(random, drawn_logs(random, plan, 1, 12, 40))[0]
            try:
                self.shown(plan, [log])
            except Barred:
                barred += 1
                self.barred(plan, [log], 1)
        self.assertGreater(barred, 30)

    def test_one_piece_where_steps_take_turns(self):
        random = Random(5)
        barred = 0
        for _ in range(120):
            count = random.randint(1, 5)
            plan = plan_of([(f"s{k}", f"f{k}") for k in range(count)])
            for i, j in permutations(range(count), 2):
                plan[f"s{i}", f"s{j}"] = 0 if i < j else 1
            logs = spoiled(random, spoiled(random, drawn_logs(random, plan, 4, 6, 40)))
            try:
                self.shown(plan, logs)
            except Barred:
                barred += 1
                self.barred(plan, logs, 1)
        self.assertGreater(barred, 30)

    def test_great_logs(self):
        random = Random(6)
        plan = great_plan()
        for items in (100, 400, 1200):
            logs = drawn_logs(random, plan, 8, 12, items)
            self.shown(plan, logs)
            for _ in range(4):
                logs = spoiled(random, logs)
            try:
                self.shown(plan, logs)
            except Barred:
                self.barred(plan, logs)
        self.shown(plan, [[(f"f{k}", 60)] for k in range(8)])
        self.shown(plan_of([("p", "a")]), [[("a", k) for k in range(200)] for _ in range(9)])

    def test_errors_in_their_order(self):
        plan = plan_of([("p", "a"), ("q", "b")])
        self.refused(NoFile, "x", plan, [[("a", 0)], [("b", -1), ("x", True)], [("y", 0)]])
        self.refused(NoFile, "p", plan, [[("a", 1), ("a", 0)], [("p", 0)]])
        self.refused(NoFile, None, plan, [[(None, 0)]])
        for value in NOT_INTEGERS + [None, -1, Hostile()]:
            self.refused(BadNumber, value, plan, [[("a", 1), ("a", 0)], [], [("b", value), ("b", -7)], [("a", "x")]])
        self.refused(NoFile, "y", plan, [[("a", Hostile())], [("y", Hostile())]])

    def test_what_is_returned_is_new(self):
        plan = plan_of([("p", "a")])
        logs = [[("a", 1)]]
        run_of(plan, logs).clear()
        sure(plan, logs)["a"] = 9
        items = run_of(plan, logs)
        logs[0].append(("a", 2))
        logs.append([("a", 5)])
        self.assertEqual(watched(plan, items), [(0, "a", 1)])
        self.assertEqual(sure(plan, [[("a", 1)]]), {"a": 1})


class SureTest(LogsTest):
    def test_one_log_and_several(self):
        plan = plan_of([("p", "a", "b"), ("q", "c"), ("r", "d")], ("p", "q", 2), ("q", "r", 0))
        self.assertEqual(sure(plan, []), {"a": 0, "b": 0, "c": 0, "d": 0})
        self.assertEqual(sure(plan, [[], []]), {"a": 0, "b": 0, "c": 0, "d": 0})
        self.assertEqual(sure(plan, [[("d", 1)]]), {"a": 0, "b": 0, "c": 1, "d": 1})
        self.assertEqual(sure(plan, [[("d", 5)]]), {"a": 3, "b": 3, "c": 5, "d": 5})
        self.assertEqual(sure(plan, [[("a", 4)], [("d", 5), ("c", 7)]]), {"a": 5, "b": 5, "c": 7, "d": 5})
        self.assertEqual(sure(plan, [[("a", 60)]]), {"a": 60, "b": 60, "c": 0, "d": 0})
        self.assertEqual(sure(Plan(), [[]]), {})

    def test_drawn_logs(self):
        random = Random(7)
        for _ in range(150):
            plan = drawn_plan(random, random.randint(1, 5), random.randint(1, 5), 4)
            logs = drawn_logs(random, plan, random.randint(0, 4), 6, 50)
            expected = {}
            for file in plan.files:
                least = [0]
                for _, other, edition in looks_of(logs):
                    shift = slow_least(plan, plan.step_of(file), plan.step_of(other))
                    if shift is not None:
                        least.append(edition - shift)
                expected[file] = max(least)
            self.assertEqual(sure(plan, logs), expected)

    def test_all_runs_of_small_plans(self):
        random = Random(8)
        for _ in range(80):
            plan = drawn_plan(random, random.randint(1, 3), 3, 2)
            logs = [log[:2] for log in drawn_logs(random, plan, 2, 3, 12)]
            ends = [dict(zip(plan.steps, counts)) for counts in slow_ends(plan, logs)]
            editions = [{file: counts[plan.step_of(file)] for file in plan.files} for counts in ends]
            least = sure(plan, logs)
            self.assertIn(least, editions)
            for file in plan.files:
                self.assertEqual(least[file], min(other[file] for other in editions))

    def test_a_run_ends_with_just_these_editions(self):
        random = Random(9)
        for _ in range(60):
            plan = drawn_plan(random, random.randint(1, 5), 5, 3)
            logs = drawn_logs(random, plan, 3, 5, 40)
            counts = counted(plan, self.shown(plan, logs))
            self.assertEqual(sure(plan, logs), {file: counts[plan.step_of(file)] for file in plan.files})
