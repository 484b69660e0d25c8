"""Timed, timed_watched and older: promises [52] to [54] and [57]."""

from random import Random

from lookrows.errors import BadItem, BadNumber, NoFile, NoRule, NoStep, NotYet, TooEarly
from lookrows.plans import Plan
from lookrows.runs import watched
from lookrows.times import Timed, older, timed_watched
from tests.cases import Case
from tests.clocks import drawn_timed, least_times_to, slow_least_time, slow_within, timed_of, timed_state
from tests.samples import NOT_INTEGERS, NOT_NAMES, Hostile, great_plan, plan_of, slow_least, state


class TimesTest(Case):
    def get(self, timed, p, q):
        return timed[p, q]

    def set(self, timed, p, q, ticks):
        timed[p, q] = ticks


class TimedTest(TimesTest):
    def test_times_at_first(self):
        timed = Timed(plan_of("p q r", ("p", "q", 3), ("q", "p", 1), ("q", "r", 0)))
        self.assertEqual([timed[pair] for pair in [("p", "q"), ("q", "p"), ("q", "r")]], [0, 0, 0])
        self.assertEqual([timed[step, step] for step in "pqr"], [1, 1, 1])
        self.assertEqual(Timed(Plan()).plan.steps, ())

    def test_times_that_are_set(self):
        timed = Timed(plan_of("p q", ("p", "q", 3)))
        for ticks in [0, 60, 1, 59, 0]:
            timed["p", "q"] = ticks
            self.assertEqual((timed["p", "q"], timed["p", "p"]), (ticks, 1))
        for ticks in [60, 1, 2, 59]:
            timed["q", "q"] = ticks
            self.assertEqual((timed["q", "q"], timed["p", "q"], timed["p", "p"]), (ticks, 0, 1))

    def test_numbers_that_are_none(self):
        timed = timed_of(plan_of("p q", ("p", "q", 3)), ("p", "q", 7), ("p", "p", 9))
        before = timed_state(timed)
        for ticks in NOT_INTEGERS + [None, -1, 61, 10 ** 59, Hostile()]:
            self.refused(BadNumber, ticks, self.set, timed, "p", "q", ticks)
            self.refused(BadNumber, ticks, self.set, timed, "p", "p", ticks)
        self.refused(BadNumber, 0, self.set, timed, "p", "p", 0)
        self.assertEqual(timed_state(timed), before)

    def test_errors_in_their_order(self):
        timed = Timed(plan_of("p q r", ("p", "q", 3)))
        before = timed_state(timed)
        for function, more in [(self.get, ()), (self.set, (-1,)), (self.set, (5,))]:
            self.refused(NoStep, "x", function, timed, "x", "y", *more)
            self.refused(NoStep, "y", function, timed, "p", "y", *more)
            self.refused(NoStep, "x", function, timed, "x", "p", *more)
            for name in NOT_NAMES + [Hostile()]:
                self.refused(NoStep, name, function, timed, name, "x", *more)
                self.refused(NoStep, name, function, timed, "q", name, *more)
            self.refused(NoRule, ("q", "p"), function, timed, "q", "p", *more)
            self.refused(NoRule, ("p", "r"), function, timed, "p", "r", *more)
        self.assertEqual(timed_state(timed), before)

    def test_a_way_is_no_rule(self):
        timed = Timed(plan_of("p q r", ("p", "q", 1), ("q", "r", 1)))
        self.refused(NoRule, ("p", "r"), self.get, timed, "p", "r")

    def test_the_plan_is_a_copy_both_ways(self):
        plan = plan_of([("p", "a"), ("q", "b")], ("p", "q", 2))
        before = state(plan)
        timed = Timed(plan)
        plan["p", "q"] = None
        plan["q", "p"] = 5
        plan.define("r", "c")
        self.assertEqual(state(timed.plan), before)
        self.refused(NoRule, ("q", "p"), self.get, timed, "q", "p")
        given = timed.plan
        given["q", "p"] = 4
        given["p", "q"] = None
        given.define("r", "c")
        self.assertEqual(state(timed.plan), before)
        self.assertEqual((timed.within("p", "q", 0), timed["p", "q"]), (2, 0))
        self.refused(NoStep, "r", self.get, timed, "r", "p")
        self.assertIsInstance(timed.plan, Plan)

    def test_a_timed_plan_is_not_iterated_over(self):
        with self.assertRaises(TypeError):
            list(Timed(plan_of("p")))


class LeastTest(TimesTest):
    def test_one_rule(self):
        timed = timed_of(plan_of("p q", ("p", "q", 2)), ("p", "q", 5), ("p", "p", 3), ("q", "q", 4))
        found = [timed.least("p", "q", shift) for shift in range(6)]
        self.assertEqual(found, [None, None, 5, 9, 13, 17])
        self.assertEqual([timed.least("p", "p", shift) for shift in range(4)], [0, 3, 6, 9])
        self.assertEqual([timed.least("q", "p", shift) for shift in (0, 1, 200)], [None, None, None])
        self.assertEqual(timed.least("q", "q", 200), 800)

    def test_rings(self):
        timed = timed_of(plan_of("p q", ("p", "q", 0), ("q", "p", 1)), ("p", "q", 7), ("q", "p", 8))
        self.assertEqual([timed.least("p", "p", shift) for shift in range(4)], [0, 15, 30, 45])
        self.assertEqual([timed.least("p", "q", shift) for shift in range(4)], [7, 22, 37, 52])
        self.assertEqual([timed.least("q", "p", shift) for shift in range(4)], [None, 8, 23, 38])

    def test_a_longer_way_with_a_greater_shift(self):
        rules = [("p", "q", 1), ("p", "r", 2), ("r", "q", 1)]
        timed = timed_of(plan_of("q p r", *rules), ("p", "r", 30), ("r", "q", 30))
        self.assertEqual([timed.least("p", "q", shift) for shift in range(6)], [None, 0, 1, 60, 61, 62])

    def test_zero_shifts_in_any_order_of_the_steps(self):
        rules = [("a", "b", 0), ("b", "c", 0), ("c", "d", 0), ("d", "a", 1)]
        for steps in ["a b c d", "d c b a", "c a d b", "b d a c"]:
            timed = timed_of(plan_of(steps, *rules), *[(p, q, 2) for p, q, _ in rules])
            self.assertEqual([timed.least("a", "d", shift) for shift in range(3)], [6, 14, 22])
            self.assertEqual([timed.least("d", "c", shift) for shift in range(3)], [None, 6, 14])

    def test_all_timed_ways_of_small_plans(self):
        random = Random(1)
        for _ in range(60):
            timed = drawn_timed(random, random.randint(1, 3), 0, 2, 4, 3)
            for p in timed.plan.steps:
                for q in timed.plan.steps:
                    told = least_times_to(timed, q)
                    for shift in range(5):
                        expected = slow_least_time(timed, p, q, shift)
                        self.assertEqual(timed.least(p, q, shift), expected)
                        self.assertEqual(told(p, shift), expected)

    def test_great_plans(self):
        random = Random(2)
        timed = drawn_timed(random, 12, 0, 99, 60, 60)
        for q in timed.plan.steps[:3]:
            told = least_times_to(timed, q)
            for p in timed.plan.steps:
                for shift in range(0, 211, 30):
                    self.assertEqual(timed.least(p, q, shift), told(p, shift))

    def test_what_is_least_holds_in_each_timed_run(self):
        timed = timed_of(plan_of("p q", ("p", "q", 1)), ("p", "q", 4))
        self.assertEqual(timed_watched(timed, [("do", "p", 0), ("do", "q", 3), ("do", "q", 4)]), [])
        self.refused(TooEarly, 2, timed_watched, timed, [("do", "p", 0), ("do", "q", 2), ("do", "q", 3)])

    def test_errors_in_their_order(self):
        timed = Timed(plan_of("p q"))
        for function in (timed.least, timed.within):
            self.refused(NoStep, "x", function, "x", "y", -1)
            self.refused(NoStep, "y", function, "p", "y", -1)
            for name in NOT_NAMES + [Hostile()]:
                self.refused(NoStep, name, function, name, name, True)
                self.refused(NoStep, name, function, "p", name, True)
            for value in NOT_INTEGERS + [None, -1, Hostile()]:
                self.refused(BadNumber, value, function, "p", "q", value)
                self.refused(BadNumber, value, function, "p", "p", value)


class WithinTest(TimesTest):
    def test_one_rule(self):
        timed = timed_of(plan_of("p q", ("p", "q", 2)), ("p", "q", 5), ("p", "p", 3), ("q", "q", 4))
        found = [timed.within("p", "q", ticks) for ticks in (0, 4, 5, 8, 9, 12, 13)]
        self.assertEqual(found, [1, 1, 2, 2, 3, 3, 4])
        self.assertIsNone(timed.within("q", "p", 7))
        self.assertIsNone(timed.within("q", "p", 0))

    def test_a_step_and_itself(self):
        timed = timed_of(plan_of("p q"), ("p", "p", 3))
        self.assertEqual([timed.within("p", "p", ticks) for ticks in (0, 2, 3, 5, 6, 100)], [0, 0, 1, 1, 2, 33])
        self.assertEqual([timed.within("q", "q", ticks) for ticks in (0, 1, 100, 1170)], [0, 1, 100, 1170])

    def test_minus_one(self):
        timed = timed_of(plan_of("p q", ("p", "q", 0)), ("p", "q", 1))
        self.assertEqual([timed.within("p", "q", ticks) for ticks in (0, 1, 2)], [-1, 0, 1])

    def test_drawn_plans(self):
        random = Random(3)
        for _ in range(60):
            timed = drawn_timed(random, random.randint(1, 5), 0, random.choice([1, 9]), random.choice([0, 3, 60]), 4)
            for p in timed.plan.steps:
                for q in timed.plan.steps:
                    for ticks in (0, 1, 5, 30):
                        self.assertEqual(timed.within(p, q, ticks), slow_within(timed, p, q, ticks))

    def test_none_just_where_there_is_no_way(self):
        random = Random(4)
        for _ in range(30):
            timed = drawn_timed(random, 5, 0, 9, 9, 9)
            plan = timed.plan
            for p in plan.steps:
                for q in plan.steps:
                    gone = slow_least(plan, p, q) is None
                    self.assertIs(timed.within(p, q, 3) is None, gone)
                    self.assertIs(timed.least(p, q, 200) is None, gone)

    def test_great_plans(self):
        timed = Timed(great_plan())
        for q in ("s0", "s11"):
            for p in timed.plan.steps:
                for ticks in (100, 0):
                    self.assertEqual(timed.within(p, q, ticks), slow_within(timed, p, q, ticks))


class OlderTest(TimesTest):
    def test_ticks(self):
        timed = timed_of(plan_of([("p", "a", "b"), ("q", "c")], ("p", "q", 0), ("q", "p", 1)), ("p", "p", 10))
        self.assertEqual([older(timed, "b", ticks) for ticks in (0, 9, 10, 19, 20, 100)], [1, 1, 2, 2, 3, 11])
        timed["q", "p"] = 15
        self.assertEqual([older(timed, "a", ticks) for ticks in (0, 14, 15, 29, 30, 100)], [1, 1, 2, 2, 3, 7])
        self.assertEqual([older(timed, "c", ticks) for ticks in (0, 14, 15)], [1, 1, 2])

    def test_it_is_told_by_within(self):
        random = Random(5)
        for _ in range(20):
            timed = drawn_timed(random, 4, 5, 2, 5, 5)
            for file in timed.plan.files:
                step = timed.plan.step_of(file)
                for ticks in (0, 1, 7, 100):
                    self.assertEqual(older(timed, file, ticks), 1 + slow_within(timed, step, step, ticks))

    def test_errors_in_their_order(self):
        timed = Timed(plan_of([("p", "a")]))
        for name in ["b", "p", None, 0, ["a"], Hostile()]:
            self.refused(NoFile, name, older, timed, name, -1)
        for value in NOT_INTEGERS + [None, -1, Hostile()]:
            self.refused(BadNumber, value, older, timed, "a", value)


class TimedWatchedTest(TimesTest):
    def test_looks(self):
        timed = timed_of(plan_of([("p", "a"), ("q", "b")], ("p", "q", 0)), ("p", "q", 2), ("p", "p", 3))
        items = [
            ("look", 0, "a", 0), ("do", "p", 0), ("look", 7, "a", 0), ("look", 0, "b", 1), ("do", "q", 2),
            ("do", "p", 3), ("look", 0, "b", 3), ("do", "q", 5), ("look", 7, "b", 5), ("look", 0, "a", 10 ** 59),
        ]
        kept, before = list(items), timed_state(timed)
        shown = timed_watched(timed, items)
        self.assertEqual(shown, [
            (0, "a", 0, 0), (7, "a", 1, 0), (0, "b", 0, 1), (0, "b", 1, 3), (7, "b", 2, 5), (0, "a", 2, 10 ** 59),
        ])
        self.assertIsInstance(shown, list)
        shown.clear()
        self.assertEqual((items, timed_state(timed)), (kept, before))
        self.assertEqual(len(timed_watched(timed, items)), 6)
        self.assertEqual(timed_watched(timed, []), [])

    def test_items_of_another_form(self):
        timed = Timed(plan_of([("p", "a")]))
        wrong = [
            None, 0, "do", [], (), {}, Hostile(), ["do", "p", 0], ("do", "p"), ("look", 0, "a"), ("do",), ("look",),
            (0,), ("do", 0), ("do", "p", 0, 0), ("do", "p", 0, 0, 0), ("look", 0, "a", 0, 0), ("look", "a", 0),
            ("look", "a", 0, 0), ("look", -1, "a", 0), ("look", True, "a", 0), ("look", 0, b"a", 0), ("do", 0, "p"),
            ("do", None, 0), ("do", Hostile(), 0), (Hostile(), "p", 0), ("look", Hostile(), "a", 0), ("see", 0, "a", 0),
            ("look", 0, 0, 0), ("do", "a", "p", 0), (0, "do", "p"),
        ]
        for tick in NOT_INTEGERS + [None, -1, Hostile()]:
            wrong += [("do", "p", tick), ("look", 0, "a", tick), ("do", "x", tick), ("look", 0, "x", tick)]
        for item in wrong:
            self.refused(BadItem, 0, timed_watched, timed, [item, ("do", "x", -1)])
            self.refused(BadItem, 2, timed_watched, timed, [("do", "p", 4), ("look", 0, "a", 4), item])

    def test_steps_and_files_that_are_missing(self):
        timed = Timed(plan_of([("p", "a"), ("q", "b")], ("p", "q", 0)))
        self.refused(NoStep, "a", timed_watched, timed, [("do", "p", 4), ("do", "a", 0)])
        self.refused(NoFile, "p", timed_watched, timed, [("do", "p", 4), ("look", 0, "p", 0)])

    def test_not_yet(self):
        timed = timed_of(plan_of("o p q", ("p", "q", 0), ("o", "q", 1)), ("p", "q", 5))
        self.refused(NotYet, (1, "p"), timed_watched, timed, [("do", "o", 4), ("do", "q", 0)])
        items = [("do", "p", 0), ("do", "q", 5), ("do", "p", 5), ("do", "q", 9)]
        self.refused(NotYet, (3, "o"), timed_watched, timed, items)

    def test_ticks_that_fall(self):
        timed = Timed(plan_of([("p", "a"), ("q", "b")]))
        self.refused(TooEarly, 1, timed_watched, timed, [("do", "p", 4), ("do", "q", 3)])
        self.refused(TooEarly, 1, timed_watched, timed, [("do", "p", 4), ("look", 0, "b", 3)])
        self.refused(TooEarly, 1, timed_watched, timed, [("look", 0, "a", 4), ("look", 1, "b", 3)])
        self.refused(TooEarly, 2, timed_watched, timed, [("look", 0, "a", 1), ("look", 0, "a", 4), ("do", "p", 3)])
        self.assertEqual(len(timed_watched(timed, [("look", 0, "a", 4), ("look", 0, "a", 4), ("do", "p", 4)])), 2)

    def test_rests(self):
        timed = timed_of(plan_of([("p", "a"), ("q", "b")]), ("p", "p", 5))
        self.refused(TooEarly, 1, timed_watched, timed, [("do", "q", 0), ("do", "q", 0)])
        self.refused(TooEarly, 2, timed_watched, timed, [("do", "p", 0), ("do", "p", 5), ("do", "p", 9)])
        self.refused(TooEarly, 1, timed_watched, timed, [("do", "p", 3), ("do", "p", 7)])
        self.assertEqual(timed_watched(timed, [("do", "p", 3), ("do", "q", 3), ("do", "q", 4), ("do", "p", 8)]), [])

    def test_waits(self):
        plan = plan_of([("p", "a"), ("q", "b")], ("p", "q", 1), ("q", "p", 2))
        timed = timed_of(plan, ("p", "q", 4), ("q", "p", 6))
        begin = [("do", "q", 0), ("do", "p", 2)]
        self.refused(TooEarly, 2, timed_watched, timed, begin + [("do", "q", 5)])
        self.assertEqual(timed_watched(timed, begin + [("do", "q", 6), ("do", "p", 6)]), [])
        # p(3) comes 6 ticks after q(1), and p(4) after q(2).
        more = begin + [("do", "p", 3), ("do", "q", 6)]
        self.refused(TooEarly, 4, timed_watched, timed, more + [("do", "p", 5)])
        self.refused(TooEarly, 5, timed_watched, timed, more + [("do", "p", 6), ("do", "p", 11)])
        self.assertEqual(timed_watched(timed, more + [("do", "p", 6), ("do", "p", 12)]), [])

    def test_the_wait_for_the_right_occurrence(self):
        timed = timed_of(plan_of("p q", ("p", "q", 0)), ("p", "q", 10))
        items = [("do", "p", 0), ("do", "p", 5), ("do", "q", 10), ("do", "q", 15)]
        self.assertEqual(timed_watched(timed, items), [])
        self.refused(TooEarly, 3, timed_watched, timed, items[:3] + [("do", "q", 14)])

    def test_the_first_wrong_item_counts(self):
        timed = timed_of(plan_of([("p", "a"), ("q", "b")], ("p", "q", 0)), ("p", "q", 3))
        first = [("do", "p", 2)]
        wrong = [
            (BadItem, 1, ("do", "p", None)), (NoStep, "x", ("do", "x", 0)), (NoFile, "x", ("look", 0, "x", 0)),
            (TooEarly, 1, ("do", "p", 2)), (TooEarly, 1, ("look", 0, "a", 1)), (TooEarly, 1, ("do", "q", 4)),
        ]
        for error, told, item in wrong:
            for _, _, other in wrong:
                self.refused(error, told, timed_watched, timed, first + [item, other])
        self.refused(NotYet, (0, "p"), timed_watched, timed, [("do", "q", 0), None])

    def test_drawn_timed_runs(self):
        random = Random(6)
        early = 0
        for _ in range(150):
            timed = drawn_timed(random, random.randint(1, 4), 3, 2, 3, 3)
            plan = timed.plan
            items, now = [], 0
            for _ in range(30):
                now += random.choice([0, 0, 0, 1, 2, 5])
                if random.random() < 0.3:
                    item = ("look", random.randint(0, 2), random.choice(plan.files), now)
                else:
                    item = ("do", random.choice(plan.steps), now)
                expected = self.told(timed, items + [item])
                if expected is None:
                    items.append(item)
                else:
                    early += expected is TooEarly
                    with self.assertRaises(expected):
                        timed_watched(timed, items + [item])
            shown = timed_watched(timed, items)
            self.assertEqual([look[:3] for look in shown], watched(plan, [item[:-1] for item in items]))
            self.assertEqual([look[3] for look in shown], [item[-1] for item in items if item[0] == "look"])
        self.assertGreater(early, 100)

    def told(self, timed, items):
        """The error that the last item raises, by the words of the document, or None."""
        times = {step: [] for step in timed.plan.steps}
        for item in items[:-1]:
            if item[0] == "do":
                times[item[1]].append(item[2])
        if items[-1][0] == "look":
            return None
        _, step, tick = items[-1]
        number = len(times[step]) + 1
        early = number > 1 and tick < times[step][-1] + timed[step, step]
        for p, q, shift in timed.plan.rules():
            if q == step and number - shift >= 1:
                if len(times[p]) < number - shift:
                    return NotYet
                early = early or tick < times[p][number - shift - 1] + timed[p, q]
        return TooEarly if early else None

    def test_a_great_run(self):
        timed = drawn_timed(Random(7), 12, 10, 3, 5, 5)
        plan = timed.plan
        items, now = [], 0
        random = Random(8)
        while len(items) < 400:
            item = random.choice([("do", random.choice(plan.steps), now), ("look", 3, random.choice(plan.files), now)])
            if self.told(timed, items + [item]) is None:
                items.append(item)
            now += random.randint(0, 2)
        looks = timed_watched(timed, items)
        self.assertEqual([look[:3] for look in looks], watched(plan, [item[:-1] for item in items]))
        self.assertGreater(max(look[2] for look in looks), 3)
