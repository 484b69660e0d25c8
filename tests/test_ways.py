"""way, lean and needed: promises [13] to [15]."""

import unittest

from lookrows.errors import BadNumber, NoStep
from lookrows.plans import Plan
from lookrows.ways import lean, needed, way
from tests.samples import (
    NOT_INTEGERS, NOT_NAMES, Hostile, all_ways, great_plan, plan_of, random_plans, slow_least, state,
)


class WayTest(unittest.TestCase):
    def check(self, plan, p, q):
        """way(plan, p, q) is a way along rules whose shift is the least one."""
        found = way(plan, p, q)
        if plan[p, q] is None:
            self.assertIsNone(found)
            return
        self.assertIsInstance(found, list)
        self.assertEqual((found[0], found[-1]), (p, q))
        shifts = {(a, b): shift for a, b, shift in plan.rules()}
        self.assertEqual(sum(shifts[pair] for pair in zip(found, found[1:])), plan[p, q])

    def test_one_way(self):
        plan = plan_of("p q r", ("p", "q", 2), ("q", "r", 0))
        self.assertEqual(way(plan, "p", "r"), ["p", "q", "r"])
        self.assertEqual(way(plan, "p", "q"), ["p", "q"])
        self.assertIsNone(way(plan, "r", "p"))

    def test_a_step_and_itself(self):
        plan = plan_of("p q", ("p", "q", 0), ("q", "p", 1))
        self.assertEqual(way(plan, "p", "p"), ["p"])
        self.assertEqual(way(plan_of("p"), "p", "p"), ["p"])

    def test_several_ways(self):
        plan = plan_of("p q r s", ("p", "s", 9), ("p", "q", 3), ("q", "s", 4), ("p", "r", 1), ("r", "s", 7))
        self.assertEqual(way(plan, "p", "s"), ["p", "q", "s"])
        plan["r", "q"] = 1
        self.assertEqual(way(plan, "p", "s"), ["p", "r", "q", "s"])
        plan["q", "s"] = None
        self.assertEqual(way(plan, "p", "s"), ["p", "r", "s"])
        plan["r", "s"] = 9
        self.assertEqual(way(plan, "p", "s"), ["p", "s"])
        plan["p", "s"] = None
        self.assertEqual(way(plan, "p", "s"), ["p", "r", "s"])
        plan["p", "r"] = None
        self.assertIsNone(way(plan, "p", "s"))

    def test_equal_ways(self):
        plan = plan_of("p q r s", ("p", "q", 1), ("q", "s", 1), ("p", "r", 2), ("r", "s", 0), ("p", "s", 2))
        self.assertIn(way(plan, "p", "s"), [steps for shift, steps in all_ways(plan, "p", "s") if shift == 2])

    def test_many_plans(self):
        for plan in [great_plan(), *random_plans(60, 7, 3, seed=7)]:
            for p in plan.steps:
                for q in plan.steps:
                    self.check(plan, p, q)

    def test_long_ways_of_shift_0(self):
        steps = [f"s{k}" for k in range(12)]
        rules = [(p, q, 0) for k, p in enumerate(steps) for q in steps[k + 1:]]
        plan = plan_of(" ".join(reversed(steps)), *rules, ("s11", "s0", 1))
        for p in steps:
            for q in steps:
                self.check(plan, p, q)

    def test_the_list_is_new(self):
        plan = plan_of("p q", ("p", "q", 2))
        way(plan, "p", "q").append("r")
        self.assertEqual(way(plan, "p", "q"), ["p", "q"])

    def test_steps_that_are_missing(self):
        plan = plan_of([("p", "a")])
        before = state(plan)
        for x in NOT_NAMES + ["a", "q", Hostile()]:
            for p, q in [("p", x), (x, "p"), (x, x), (x, "zz")]:
                with self.assertRaises(NoStep) as caught:
                    way(plan, p, q)
                self.assertIs(caught.exception.name, x)
        self.assertEqual(state(plan), before)


class LeanTest(unittest.TestCase):
    def expected(self, plan):
        """The rules of the lean plan, as the document says them."""
        rules = []
        for p in plan.steps:
            for q in plan.steps:
                least = slow_least(plan, p, q) if len(plan) < 8 else plan[p, q]
                if p != q and least is not None:
                    thirds = [(plan[p, r], plan[r, q]) for r in plan.steps if r not in (p, q)]
                    if all(a is None or b is None or a + b > least for a, b in thirds):
                        rules.append((p, q, least))
        return rules

    def test_rules_that_go(self):
        plan = plan_of("p q r", ("p", "q", 1), ("q", "r", 1), ("p", "r", 2))
        self.assertEqual(lean(plan).rules(), [("p", "q", 1), ("q", "r", 1)])
        plan["p", "r"] = 3
        self.assertEqual(lean(plan).rules(), [("p", "q", 1), ("q", "r", 1)])
        plan["p", "r"] = 1
        self.assertEqual(lean(plan).rules(), [("p", "q", 1), ("p", "r", 1), ("q", "r", 1)])
        plan["q", "r"] = None
        self.assertEqual(lean(plan).rules(), [("p", "q", 1), ("p", "r", 1)])

    def test_rings(self):
        plan = plan_of("p q r", ("p", "q", 0), ("q", "r", 0), ("r", "p", 1), ("q", "p", 1), ("r", "q", 2))
        self.assertEqual(lean(plan).rules(), [("p", "q", 0), ("q", "r", 0), ("r", "p", 1)])

    def test_steps_and_files_stay(self):
        plan = plan_of([("q", "z", "a"), ("p",), ("a", "q")], ("q", "p", 99))
        self.assertEqual(state(lean(plan)), state(plan))
        self.assertEqual(state(lean(Plan())), state(Plan()))

    def test_many_plans(self):
        for plan in [great_plan(), *random_plans(60, 7, 3, seed=8)]:
            before = state(plan)
            made = lean(plan)
            self.assertIsInstance(made, Plan)
            self.assertEqual(made.rules(), self.expected(plan))
            self.assertEqual((made.steps, made.files), (plan.steps, plan.files))
            for p in plan.steps:
                self.assertEqual(made.files_of(p), plan.files_of(p))
                for q in plan.steps:
                    self.assertEqual(made[p, q], plan[p, q])
            self.assertEqual(state(plan), before)

    def test_each_rule_is_needed(self):
        for plan in random_plans(30, 6, 3, seed=9):
            made = lean(plan)
            for p, q, shift in made.rules():
                made[p, q] = None
                self.assertFalse(made <= plan)
                made[p, q] = shift

    def test_it_shares_nothing(self):
        plan = plan_of([("p", "a"), ("q",)], ("p", "q", 1))
        before = state(plan)
        made = lean(plan)
        made["p", "q"] = 3
        made.define("r", "b")
        self.assertEqual(state(plan), before)
        made = lean(plan)
        plan["p", "q"] = None
        plan.define("r", "b")
        self.assertEqual(state(made), before)


class NeededTest(unittest.TestCase):
    def test_numbers(self):
        plan = plan_of("p q r s", ("p", "q", 2), ("q", "r", 3), ("p", "r", 9), ("r", "s", 0))
        self.assertEqual(needed(plan, "r", 7), {"p": 2, "q": 4, "r": 7, "s": 0})
        self.assertEqual(needed(plan, "r", 5), {"p": 0, "q": 2, "r": 5, "s": 0})
        self.assertEqual(needed(plan, "r", 4), {"p": 0, "q": 1, "r": 4, "s": 0})
        self.assertEqual(needed(plan, "s", 6), {"p": 1, "q": 3, "r": 6, "s": 6})
        self.assertEqual(needed(plan, "p", 6), {"p": 6, "q": 0, "r": 0, "s": 0})
        self.assertEqual(needed(plan, "r", 0), {"p": 0, "q": 0, "r": 0, "s": 0})

    def test_great_numbers(self):
        plan = plan_of("p q", ("p", "q", 99))
        for number in [10 ** 59, 10 ** 60 - 1, 10 ** 70]:
            self.assertEqual(needed(plan, "q", number), {"p": number - 99, "q": number})

    def test_rings_do_not_raise_the_number_of_the_step(self):
        plan = plan_of("p q", ("p", "q", 0), ("q", "p", 1))
        self.assertEqual(needed(plan, "p", 4), {"p": 4, "q": 3})
        self.assertEqual(needed(plan, "q", 4), {"p": 4, "q": 4})

    def test_many_plans(self):
        for plan in random_plans(40, 6, 4, seed=10):
            for step in plan.steps:
                for number in range(7):
                    told = needed(plan, step, number)
                    self.assertEqual(set(told), set(plan.steps))
                    for r in plan.steps:
                        shift = slow_least(plan, r, step)
                        self.assertEqual(told[r], 0 if shift is None or shift > number else number - shift)

    def test_the_dict_is_new(self):
        plan = plan_of("p q", ("p", "q", 1))
        needed(plan, "q", 3).clear()
        self.assertEqual(needed(plan, "q", 3), {"p": 2, "q": 3})

    def test_errors(self):
        plan = plan_of([("p", "a"), ("q",)], ("p", "q", 1))
        before = state(plan)
        for x in NOT_NAMES + ["a", "r", Hostile()]:
            for number in [1, -1, True, None]:
                with self.assertRaises(NoStep) as caught:
                    needed(plan, x, number)
                self.assertIs(caught.exception.name, x)
        for x in NOT_INTEGERS + [None, -1, -(10 ** 60), Hostile()]:
            with self.assertRaises(BadNumber) as caught:
                needed(plan, "q", x)
            self.assertIs(caught.exception.value, x)
        self.assertEqual(state(plan), before)
