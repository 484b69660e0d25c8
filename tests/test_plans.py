"""Plan: steps, files and rules, promises [4] to [10]."""

import unittest
from random import Random

from lookrows.errors import BadName, BadNumber, NameTaken, NoFile, NoStep, SameStep, ZeroRing
from lookrows.plans import Plan
from tests.samples import (
    NOT_INTEGERS, NOT_NAMES, Hostile, great_plan, has_zero_ring, plan_of, random_plans, slow_least, state,
)


class PlanTest(unittest.TestCase):
    def refused(self, error, told, plan, act):
        """The action raises this error, which tells just this object, and changes nothing."""
        before = state(plan)
        with self.assertRaises(error) as caught:
            act()
        self.assertIs(caught.exception.__class__, error)
        kept = caught.exception.value if error is BadNumber else caught.exception.name
        self.assertIs(kept, told)
        self.assertEqual(state(plan), before)


class DefineTest(PlanTest):
    def test_a_plan_without_steps(self):
        plan = Plan()
        self.assertEqual((plan.steps, plan.files, plan.rules(), len(plan)), ((), (), [], 0))
        self.assertNotIn("a", plan)

    def test_steps_and_files_in_their_order(self):
        plan = plan_of([("q", "z", "b"), ("p",), ("a", "y"), ("b", "p", "q")])
        self.assertEqual(plan.steps, ("q", "p", "a", "b"))
        self.assertEqual(plan.files, ("z", "b", "y", "p", "q"))
        self.assertEqual([plan.files_of(step) for step in plan.steps], [("z", "b"), (), ("y",), ("p", "q")])
        self.assertEqual([plan.step_of(file) for file in plan.files], ["q", "q", "a", "b", "b"])
        self.assertEqual(len(plan), 4)
        self.assertIsInstance(plan.steps, tuple)
        self.assertIsInstance(plan.files, tuple)
        self.assertIsInstance(plan.files_of("q"), tuple)

    def test_define_returns_nothing_and_plans_are_apart(self):
        one, two = Plan(), Plan()
        self.assertIsNone(one.define("p", "a"))
        self.assertEqual(two.steps, ())
        self.assertEqual(two.files, ())

    def test_bad_names(self):
        plan = plan_of([("p", "a"), ("q",)], ("p", "q", 3))
        for x in NOT_NAMES + [Hostile()]:
            self.refused(BadName, x, plan, lambda: plan.define(x))
            self.refused(BadName, x, plan, lambda: plan.define("r", x))
            self.refused(BadName, x, plan, lambda: plan.define("r", "b", x, "c"))

    def test_the_first_bad_name_counts(self):
        plan = plan_of([("p", "a")])
        self.refused(BadName, "A", plan, lambda: plan.define("A", "B", "C"))
        self.refused(BadName, "B", plan, lambda: plan.define("r", "b", "B", "C"))

    def test_bad_names_come_before_taken_ones(self):
        plan = plan_of([("p", "a")])
        self.refused(BadName, "B", plan, lambda: plan.define("p", "a", "a", "B"))

    def test_taken_names(self):
        plan = plan_of([("p", "a", "b"), ("q", "c")])
        self.refused(NameTaken, "p", plan, lambda: plan.define("p"))
        self.refused(NameTaken, "q", plan, lambda: plan.define("q", "d"))
        self.refused(NameTaken, "b", plan, lambda: plan.define("r", "b"))
        self.refused(NameTaken, "c", plan, lambda: plan.define("r", "d", "c", "a"))
        self.refused(NameTaken, "d", plan, lambda: plan.define("r", "d", "e", "d", "e"))
        self.refused(NameTaken, "d", plan, lambda: plan.define("r", "d", "d", "a"))
        self.refused(NameTaken, "a", plan, lambda: plan.define("r", "d", "a", "d"))
        self.refused(NameTaken, "q", plan, lambda: plan.define("q", "a", "d", "d"))
        plan.define("r", "d", "e")
        self.assertEqual(plan.files, ("a", "b", "c", "d", "e"))

    def test_a_step_and_a_file_may_share_a_name(self):
        plan = Plan()
        plan.define("a", "a", "p")
        plan.define("p", "b")
        self.assertEqual((plan.steps, plan.files), (("a", "p"), ("a", "p", "b")))
        self.assertEqual((plan.step_of("a"), plan.step_of("p"), plan.step_of("b")), ("a", "a", "p"))

    def test_a_new_step_keeps_the_rules(self):
        plan = plan_of("p q", ("p", "q", 4))
        plan.define("r")
        self.assertEqual((plan["p", "q"], plan["p", "r"], plan["r", "r"], plan["r", "q"]), (4, None, 0, None))

    def test_what_is_passed_is_not_kept(self):
        files = ["a", "b"]
        plan = Plan()
        plan.define("p", *files)
        files.append("c")
        self.assertEqual(plan.files_of("p"), ("a", "b"))


class AskTest(PlanTest):
    def test_step_of_and_files_of_refuse(self):
        plan = plan_of([("p", "a"), ("q",)])
        for x in NOT_NAMES + ["q", "p", "b", Hostile()]:
            self.refused(NoFile, x, plan, lambda: plan.step_of(x))
        for x in NOT_NAMES + ["a", "r", Hostile()]:
            self.refused(NoStep, x, plan, lambda: plan.files_of(x))

    def test_in(self):
        plan = plan_of([("p", "a"), ("q",)])
        self.assertIs("p" in plan, True)
        self.assertIs("q" in plan, True)
        for x in NOT_NAMES + ["a", "r", "pq", ("p", "q"), ["p"], Hostile()]:
            self.assertIs(x in plan, False)

    def test_len_counts_the_steps(self):
        plan = Plan()
        for count, step in enumerate("abcdef"):
            self.assertEqual(len(plan), count)
            plan.define(step, step + "1", step + "2")

    def test_rules_are_ordered_by_the_places_of_the_steps(self):
        plan = plan_of("c a b", ("b", "a", 1), ("a", "b", 2), ("c", "b", 3), ("b", "c", 4), ("c", "a", 0))
        self.assertEqual(
            plan.rules(), [("c", "a", 0), ("c", "b", 3), ("a", "b", 2), ("b", "c", 4), ("b", "a", 1)]
        )
        self.assertIsInstance(plan.rules(), list)
        self.assertTrue(all(isinstance(rule, tuple) for rule in plan.rules()))

    def test_the_list_of_rules_is_new(self):
        plan = plan_of("a b", ("a", "b", 2))
        plan.rules().clear()
        plan.rules().append(("b", "a", 1))
        self.assertEqual(plan.rules(), [("a", "b", 2)])

    def test_a_plan_is_not_iterated_over(self):
        with self.assertRaises(TypeError):
            list(plan_of("a b"))


class RuleTest(PlanTest):
    def test_shifts_that_may_stand(self):
        plan = plan_of("p q")
        for shift in [0, 1, 5, 98, 99]:
            plan["p", "q"] = shift
            self.assertEqual(plan["p", "q"], shift)
            self.assertEqual(plan.rules(), [("p", "q", shift)])

    def test_shifts_that_may_not_stand(self):
        plan = plan_of("p q r", ("p", "q", 7))
        for x in NOT_INTEGERS + [-1, 100, 101, -99, 10 ** 59, -(10 ** 59), 10 ** 5000, "None", Hostile()]:
            self.refused(BadNumber, x, plan, lambda: plan.__setitem__(("p", "q"), x))
            self.refused(BadNumber, x, plan, lambda: plan.__setitem__(("q", "r"), x))

    def test_steps_that_are_missing(self):
        plan = plan_of([("p", "a"), ("q",)], ("p", "q", 7))
        for x in NOT_NAMES + ["a", "r", Hostile()]:
            self.refused(NoStep, x, plan, lambda: plan["p", x])
            self.refused(NoStep, x, plan, lambda: plan[x, "p"])
            self.refused(NoStep, x, plan, lambda: plan[x, x])
            self.refused(NoStep, x, plan, lambda: plan[x, "zz"])
            for shift in [3, None, 100, True]:
                self.refused(NoStep, x, plan, lambda: plan.__setitem__(("p", x), shift))
                self.refused(NoStep, x, plan, lambda: plan.__setitem__((x, "p"), shift))
                self.refused(NoStep, x, plan, lambda: plan.__setitem__((x, x), shift))
                self.refused(NoStep, x, plan, lambda: plan.__setitem__((x, "zz"), shift))

    def test_the_same_step_twice(self):
        plan = plan_of("p q", ("p", "q", 7))
        for shift in [0, 1, None, -1, 100, True, "0", Hostile()]:
            self.refused(SameStep, "p", plan, lambda: plan.__setitem__(("p", "p"), shift))

    def test_bad_numbers_come_before_zero_rings(self):
        plan = plan_of("p q", ("p", "q", 0))
        self.refused(BadNumber, False, plan, lambda: plan.__setitem__(("q", "p"), False))

    def test_replacing_and_removing(self):
        plan = plan_of("p q r", ("p", "q", 5), ("q", "r", 1))
        plan["p", "q"] = 9
        self.assertEqual((plan["p", "q"], plan["p", "r"]), (9, 10))
        plan["p", "q"] = 2
        self.assertEqual((plan["p", "q"], plan["p", "r"]), (2, 3))
        plan["p", "q"] = None
        self.assertEqual((plan["p", "q"], plan["p", "r"], plan["q", "r"]), (None, None, 1))
        self.assertEqual(plan.rules(), [("q", "r", 1)])

    def test_removing_what_is_not_there(self):
        plan = plan_of("p q r", ("p", "q", 5), ("q", "r", 1))
        before = state(plan)
        plan["q", "p"] = None
        plan["p", "r"] = None
        self.assertEqual(state(plan), before)

    def test_both_directions_are_different_rules(self):
        plan = plan_of("p q", ("p", "q", 0), ("q", "p", 1))
        self.assertEqual((plan["p", "q"], plan["q", "p"]), (0, 1))
        plan["p", "q"] = None
        self.assertEqual((plan["p", "q"], plan["q", "p"]), (None, 1))


class RingTest(PlanTest):
    def closes(self, plan, p, q, ring):
        """A rule of shift 0 from p to q closes just this ring, and is refused."""
        before = state(plan)
        with self.assertRaises(ZeroRing) as caught:
            plan[p, q] = 0
        members = caught.exception.members
        self.assertIsInstance(members, tuple)
        turns = [tuple(ring[k:] + ring[:k]) for k in range(len(ring))]
        self.assertIn(members, turns)
        self.assertEqual(state(plan), before)

    def test_rings_of_two_and_more_steps(self):
        self.closes(plan_of("p q", ("p", "q", 0)), "q", "p", ["p", "q"])
        self.closes(plan_of("p q r", ("p", "q", 0), ("q", "r", 0)), "r", "p", ["p", "q", "r"])
        steps = [f"s{k}" for k in range(12)]
        rules = [(p, q, 0) for p, q in zip(steps, steps[1:])]
        self.closes(plan_of(" ".join(steps), *rules), "s11", "s0", steps)
        self.closes(plan_of(" ".join(reversed(steps)), *rules), "s7", "s4", steps[4:8])

    def test_rings_that_a_replaced_rule_would_close(self):
        plan = plan_of("p q r", ("p", "q", 0), ("q", "r", 0), ("r", "p", 1))
        self.closes(plan, "r", "p", ["p", "q", "r"])
        plan = plan_of("p q", ("p", "q", 99), ("q", "p", 0))
        self.closes(plan, "p", "q", ["p", "q"])

    def test_a_ring_beside_other_rules(self):
        plan = plan_of(
            "a b c d e", ("a", "b", 0), ("b", "c", 1), ("b", "d", 0), ("d", "c", 0), ("e", "b", 0), ("c", "d", 3),
        )
        self.closes(plan, "c", "a", ["a", "b", "d", "c"])

    def test_rings_with_a_greater_shift_are_no_fault(self):
        plan = plan_of("p q r", ("p", "q", 0), ("q", "p", 1), ("q", "r", 0), ("r", "p", 99))
        self.assertEqual(len(plan.rules()), 4)
        plan["r", "p"] = 1
        self.assertEqual((plan["r", "p"], plan["r", "q"], plan["p", "r"], plan["p", "p"]), (1, 1, 0, 0))

    def test_a_removed_or_replaced_rule_opens_the_ring(self):
        plan = plan_of("p q r", ("p", "q", 0), ("q", "r", 0))
        plan["p", "q"] = 1
        plan["r", "p"] = 0
        self.assertEqual(plan.rules(), [("p", "q", 1), ("q", "r", 0), ("r", "p", 0)])
        plan["q", "r"] = None
        plan["p", "q"] = 0
        self.assertEqual((plan["r", "q"], plan["q", "r"]), (0, None))

    def test_zero_rules_without_a_ring(self):
        plan = plan_of("a b c d", ("a", "b", 0), ("a", "c", 0), ("b", "d", 0), ("c", "d", 0), ("a", "d", 0))
        self.assertEqual([plan["a", step] for step in plan.steps], [0, 0, 0, 0])
        self.assertEqual([plan["d", step] for step in plan.steps], [None, None, None, 0])

    def test_random_rules(self):
        random = Random(11)
        steps = ["a", "b", "c", "d", "e"]
        refused = 0
        for _ in range(40):
            plan, rules = plan_of("a b c d e"), {}
            for _ in range(25):
                p, q = random.sample(steps, 2)
                shift = random.choice([0, 0, 0, 1, 2, None])
                after = {pair: rules[pair] for pair in rules if pair != (p, q)}
                if shift is not None:
                    after[p, q] = shift
                if has_zero_ring(steps, after):
                    refused += 1
                    before = state(plan)
                    with self.assertRaises(ZeroRing) as caught:
                        plan[p, q] = shift
                    ring = caught.exception.members
                    self.assertGreaterEqual(len(ring), 2)
                    self.assertEqual(len(set(ring)), len(ring))
                    self.assertTrue(all(after[ring[k - 1], ring[k]] == 0 for k in range(len(ring))))
                    self.assertEqual(state(plan), before)
                else:
                    plan[p, q] = shift
                    rules = after
                self.assertEqual({(a, b): n for a, b, n in plan.rules()}, rules)
        self.assertGreater(refused, 50)


class LeastShiftTest(unittest.TestCase):
    def test_a_step_and_itself(self):
        plan = plan_of("p q", ("p", "q", 1), ("q", "p", 2))
        self.assertEqual((plan["p", "p"], plan["q", "q"]), (0, 0))
        self.assertEqual(plan_of("p")["p", "p"], 0)

    def test_no_way(self):
        plan = plan_of("p q r", ("p", "q", 1), ("r", "q", 1))
        self.assertIsNone(plan["q", "p"])
        self.assertIsNone(plan["p", "r"])

    def test_several_ways(self):
        plan = plan_of("p q r s", ("p", "s", 9), ("p", "q", 3), ("q", "s", 4), ("p", "r", 1), ("r", "s", 7))
        self.assertEqual(plan["p", "s"], 7)
        plan["r", "q"] = 1
        self.assertEqual((plan["p", "s"], plan["p", "q"]), (6, 2))
        plan["p", "s"] = 5
        self.assertEqual(plan["p", "s"], 5)
        plan["p", "s"] = 6
        self.assertEqual(plan["p", "s"], 6)
        plan["p", "s"] = 50
        self.assertEqual(plan["p", "s"], 6)
        self.assertIn(("p", "s", 50), plan.rules())
        plan["p", "r"] = None
        self.assertEqual(plan["p", "s"], 7)
        plan["q", "s"] = None
        self.assertEqual(plan["p", "s"], 50)
        plan["p", "s"] = None
        self.assertIsNone(plan["p", "s"])

    def test_a_long_way_has_a_shift_above_99(self):
        steps = [f"s{k}" for k in range(12)]
        plan = plan_of(" ".join(steps), *[(p, q, 99) for p, q in zip(steps, steps[1:])])
        self.assertEqual(plan["s0", "s11"], 11 * 99)
        self.assertIsNone(plan["s11", "s0"])

    def test_random_plans(self):
        for plan in random_plans(60, 6, 4, seed=1):
            for p in plan.steps:
                for q in plan.steps:
                    self.assertEqual(plan[p, q], slow_least(plan, p, q))

    def test_random_changes(self):
        random = Random(2)
        for plan in random_plans(25, 5, 4, seed=3):
            for p, q, _ in plan.rules():
                if random.random() < 0.6:
                    plan[p, q] = random.choice([None, 1, 2, 5, 99])
                    for a in plan.steps:
                        for b in plan.steps:
                            self.assertEqual(plan[a, b], slow_least(plan, a, b))

    def test_a_great_plan(self):
        plan = great_plan()
        self.assertEqual((len(plan), len(plan.files), len(plan.rules())), (12, 10, 132))
        shifts = {(p, q): shift for p, q, shift in plan.rules()}
        for (p, q), shift in shifts.items():
            through = [plan[p, r] + plan[r, q] for r in plan.steps if r not in (p, q)]
            self.assertEqual(plan[p, q], min([shift, *through]))

    def test_beyond_the_limits(self):
        plan = Plan()
        for k in range(16):
            plan.define(f"s{k}", f"a{k}", f"b{k}")
        for k in range(15):
            plan[f"s{k}", f"s{k + 1}"] = k
        self.assertEqual((len(plan), len(plan.files), plan["s0", "s15"]), (16, 32, sum(range(15))))


class CopyTest(unittest.TestCase):
    def test_a_copy_is_the_same(self):
        for plan in [Plan(), great_plan(), *random_plans(20, 6, 4, seed=4)]:
            copy = plan.copy()
            self.assertIsInstance(copy, Plan)
            self.assertIsNot(copy, plan)
            self.assertEqual(state(copy), state(plan))

    def test_a_copy_shares_nothing(self):
        plan = plan_of([("p", "a"), ("q", "b"), ("r",)], ("p", "q", 1), ("q", "r", 2))
        before = state(plan)
        copy = plan.copy()
        copy.define("s", "c")
        copy["p", "q"] = None
        copy["r", "p"] = 5
        self.assertEqual(state(plan), before)
        copy = plan.copy()
        plan.define("s", "c")
        plan["p", "q"] = 7
        plan["q", "r"] = None
        self.assertEqual(state(copy), before)
