"""Two plans and more: promises [11] and [12]."""

import unittest
from random import Random

from lookrows.errors import Clash, ZeroRing
from lookrows.plans import Plan, joined
from tests.samples import great_plan, has_zero_ring, plan_of, random_rules, slow_least, state


class AtMostTest(unittest.TestCase):
    def test_equal_plans(self):
        for plan in [Plan(), great_plan(), plan_of([("p", "a"), ("q", "b")], ("p", "q", 1))]:
            self.assertIs(plan <= plan, True)
            self.assertIs(plan <= plan.copy(), True)

    def test_other_orders(self):
        one = plan_of([("p", "a", "b"), ("q", "c")], ("p", "q", 1))
        two = plan_of([("q", "c"), ("p", "b", "a")], ("p", "q", 1))
        self.assertIs(one <= two, True)
        self.assertIs(two <= one, True)

    def test_other_steps(self):
        one, two = plan_of("p q"), plan_of("p q r")
        for first, second in [(one, two), (two, one), (plan_of("p r"), one), (Plan(), one), (one, Plan())]:
            self.assertIs(first <= second, False)

    def test_other_files(self):
        one = plan_of([("p", "a"), ("q", "b")])
        for steps in [
            [("p", "a"), ("q",)], [("p", "a", "c"), ("q", "b")], [("p", "b"), ("q", "a")], [("p", "a", "b"), ("q",)],
            [("p",), ("q", "a", "b")], [("p", "a"), ("q", "c")],
        ]:
            self.assertIs(one <= plan_of(steps), False)
            self.assertIs(plan_of(steps) <= one, False)

    def test_least_shifts(self):
        free, late, early = plan_of("p q"), plan_of("p q", ("p", "q", 2)), plan_of("p q", ("p", "q", 1))
        for first, second, expected in [
            (free, late, False), (late, free, True), (early, late, True), (late, early, False), (early, free, True),
        ]:
            self.assertIs(first <= second, expected)
        self.assertIs(plan_of("p q", ("q", "p", 1)) <= early, False)

    def test_least_shifts_count_and_not_rules(self):
        ring = plan_of("p q r", ("p", "q", 1), ("q", "r", 1))
        more = plan_of("p q r", ("p", "q", 1), ("q", "r", 1), ("p", "r", 2))
        less = plan_of("p q r", ("p", "q", 1), ("q", "r", 1), ("p", "r", 1))
        self.assertIs(ring <= more, True)
        self.assertIs(more <= ring, True)
        self.assertIs(ring <= less, False)
        self.assertIs(less <= ring, True)
        self.assertIs(ring <= plan_of("p q r", ("p", "r", 2)), True)
        self.assertIs(plan_of("p q r", ("p", "r", 2)) <= ring, False)

    def test_random_plans(self):
        random = Random(5)
        found = {True: 0, False: 0}
        for _ in range(300):
            names = ["a", "b", "c", "d"][:random.randint(1, 4)]
            one, two = [plan_of(" ".join(names), *random_rules(random, names, 2)) for _ in range(2)]
            expected = True
            for p in names:
                for q in names:
                    low, high = slow_least(one, p, q), slow_least(two, p, q)
                    if high is not None and (low is None or low > high):
                        expected = False
            self.assertIs(one <= two, expected)
            found[expected] += 1
        self.assertGreater(min(found.values()), 20)

    def test_nothing_is_changed(self):
        one, two = great_plan(), plan_of("p q", ("p", "q", 1))
        before = state(one), state(two)
        self.assertIs(one <= two, False)
        self.assertEqual((state(one), state(two)), before)

    def test_something_else(self):
        for x in [None, 1, "p"]:
            with self.assertRaises(TypeError):
                plan_of("p") <= x


class UnionTest(unittest.TestCase):
    def refused(self, one, two, error, kept):
        """Each kind of union raises the error and changes nothing."""
        def change(x):
            x |= two

        before = state(one), state(two)
        for act in [lambda: one | two, lambda: change(one), lambda: joined(one, two)]:
            with self.assertRaises(error) as caught:
                act()
            if error is Clash:
                self.assertEqual(caught.exception.name, kept)
            else:
                self.assertIn(caught.exception.members, kept)
            self.assertEqual((state(one), state(two)), before)

    def test_the_order_of_steps_and_files(self):
        one = plan_of([("q", "z", "b"), ("p",)], ("q", "p", 3))
        two = plan_of([("r", "y"), ("q", "b", "z"), ("a", "c", "a"), ("p",)], ("a", "q", 1), ("r", "a", 0))
        both = one | two
        self.assertIsInstance(both, Plan)
        self.assertEqual(both.steps, ("q", "p", "r", "a"))
        self.assertEqual(both.files, ("z", "b", "y", "c", "a"))
        self.assertEqual([both.files_of(x) for x in both.steps], [("z", "b"), (), ("y",), ("c", "a")])
        self.assertEqual([both.step_of(x) for x in both.files], ["q", "q", "r", "a", "a"])
        self.assertEqual(both.rules(), [("q", "p", 3), ("r", "a", 0), ("a", "q", 1)])
        self.assertEqual((both["r", "p"], both["p", "r"]), (4, None))
        other = two | one
        self.assertEqual(other.steps, ("r", "q", "a", "p"))
        self.assertEqual(other.files, ("y", "b", "z", "c", "a"))

    def test_the_smaller_shift_counts(self):
        one = plan_of("p q r", ("p", "q", 3), ("q", "r", 0), ("r", "p", 5))
        two = plan_of("p q r", ("p", "q", 2), ("q", "r", 4), ("r", "p", 5))
        expected = [("p", "q", 2), ("q", "r", 0), ("r", "p", 5)]
        self.assertEqual((one | two).rules(), expected)
        self.assertEqual((two | one).rules(), expected)

    def test_with_a_plan_without_steps_and_with_itself(self):
        plan = great_plan()
        for both in [plan | Plan(), Plan() | plan, plan | plan, joined(plan), joined(plan, plan, Plan())]:
            self.assertIsNot(both, plan)
            self.assertEqual(state(both), state(plan))
        plan |= plan
        self.assertEqual(state(plan), state(great_plan()))

    def test_a_step_clashes(self):
        one = plan_of([("p", "a"), ("q", "b"), ("r", "c")])
        for steps, name in [
            ([("p",)], "p"), ([("q", "b", "d")], "q"), ([("r", "d")], "r"), ([("r", "d"), ("q",)], "q"),
            ([("q", "a"), ("p", "b")], "p"), ([("q", "c"), ("s", "a")], "q"), ([("s", "a"), ("r",)], "r"),
        ]:
            self.refused(one, plan_of(steps), Clash, name)
        self.refused(plan_of([("p",)]), plan_of([("p", "a")]), Clash, "p")

    def test_a_file_clashes(self):
        one = plan_of([("p", "b", "a"), ("q", "c")])
        for steps, name in [
            ([("s", "a")], "a"), ([("s", "c", "b")], "b"), ([("s", "c", "a")], "a"), ([("s", "c"), ("t", "b")], "b"),
            ([("p", "a", "b"), ("s", "c")], "c"),
        ]:
            self.refused(one, plan_of(steps), Clash, name)

    def test_a_file_and_a_step_of_one_name_do_not_clash(self):
        both = plan_of([("p", "q")]) | plan_of([("q", "p")])
        self.assertEqual((both.steps, both.files), (("p", "q"), ("q", "p")))

    def test_a_zero_ring(self):
        one = plan_of([("p", "a"), ("q", "b")], ("p", "q", 0))
        two = plan_of([("q", "b"), ("p", "a"), ("r",)], ("q", "p", 0), ("p", "r", 0))
        self.refused(one, two, ZeroRing, [("p", "q"), ("q", "p")])
        one = plan_of("p q r s", ("p", "q", 0), ("r", "s", 0), ("s", "p", 1))
        two = plan_of("p q r s", ("q", "r", 0), ("s", "p", 0))
        ring = ["p", "q", "r", "s"]
        self.refused(one, two, ZeroRing, [tuple(ring[k:] + ring[:k]) for k in range(4)])
        two["s", "p"] = 2
        self.assertEqual((one | two)["s", "r"], 1)

    def test_two_zero_rings_with_a_step_in_common(self):
        one = plan_of("p q r", ("p", "q", 0), ("q", "r", 0))
        two = plan_of("p q r", ("r", "q", 0), ("q", "p", 0))
        self.refused(one, two, ZeroRing, [("p", "q"), ("q", "p"), ("q", "r"), ("r", "q")])

    def test_a_clash_comes_before_a_zero_ring(self):
        one = plan_of([("p", "a"), ("q",)], ("p", "q", 0))
        self.refused(one, plan_of("p q", ("q", "p", 0)), Clash, "p")
        self.refused(one, plan_of([("q",), ("p", "a"), ("r",)], ("q", "p", 0)) | plan_of([("s", "b")]), ZeroRing,
                     [("p", "q"), ("q", "p")])

    def test_a_union_shares_nothing(self):
        one = plan_of([("p", "a"), ("q", "b")], ("p", "q", 1))
        two = plan_of([("q", "b"), ("r", "c")], ("q", "r", 2))
        before = state(one), state(two)
        for both in [one | two, joined(one, two), one | one, joined(one), joined(two)]:
            both["q", both.steps[0] if both.steps[0] != "q" else "r"] = 9
            both.define("s", "d")
            self.assertEqual((state(one), state(two)), before)
        both = one | two
        kept = state(both)
        one["p", "q"] = None
        two["q", "r"] = 5
        one.define("s", "d")
        two.define("s", "e")
        self.assertEqual(state(both), kept)

    def test_in_place(self):
        one = plan_of([("p", "a"), ("q", "b")], ("p", "q", 3))
        two = plan_of([("q", "b"), ("r", "c")], ("q", "r", 2))
        same, expected, before = one, state(one | two), state(two)
        one |= two
        self.assertIs(one, same)
        self.assertEqual(state(one), expected)
        self.assertEqual(state(two), before)
        one["q", "r"] = 9
        one.define("s")
        self.assertEqual(state(two), before)
        kept = state(one)
        two["q", "r"] = None
        two.define("t")
        self.assertEqual(state(one), kept)

    def test_something_else(self):
        plan = plan_of("p")
        for x in [None, 1, {}]:
            with self.assertRaises(TypeError):
                plan | x
            with self.assertRaises(TypeError):
                plan |= x

    def test_random_plans(self):
        random = Random(6)
        refused = 0
        for _ in range(200):
            names = ["a", "b", "c", "d", "e"]
            plans = []
            for _ in range(2):
                random.shuffle(names)
                plans.append(plan_of(" ".join(names[:4]), *random_rules(random, names[:4], 2)))
            one, two = plans
            rules = {(p, q): shift for p, q, shift in one.rules()}
            for p, q, shift in two.rules():
                rules[p, q] = min(shift, rules.get((p, q), shift))
            if has_zero_ring(names, rules):
                refused += 1
                with self.assertRaises(ZeroRing) as caught:
                    one | two
                ring = caught.exception.members
                self.assertEqual(len(set(ring)), len(ring))
                self.assertTrue(all(rules[ring[k - 1], ring[k]] == 0 for k in range(len(ring))))
            else:
                both = one | two
                self.assertEqual({(p, q): shift for p, q, shift in both.rules()}, rules)
                self.assertEqual(both.steps, one.steps + tuple(x for x in two.steps if x not in one.steps))
                self.assertTrue(all(both[p, q] == slow_least(both, p, q) for p in names for q in both.steps
                                    if p in both))
        self.assertGreater(refused, 10)


class JoinedTest(unittest.TestCase):
    def test_none_and_one(self):
        whole = joined()
        self.assertIsInstance(whole, Plan)
        self.assertEqual(state(whole), state(Plan()))
        whole.define("p")
        self.assertEqual(len(joined()), 0)

    def test_from_left_to_right(self):
        one, two, three = plan_of([("p", "a")]), plan_of([("r", "c"), ("q", "b")]), plan_of([("s",), ("p", "a")])
        one.define("t")
        two.define("t")
        two["t", "q"] = 3
        three.define("q", "b")
        three["s", "p"] = 1
        whole = joined(one, two, three)
        self.assertEqual(state(whole), state((one | two) | three))
        self.assertEqual(whole.steps, ("p", "t", "r", "q", "s"))
        self.assertEqual(whole.rules(), [("t", "q", 3), ("s", "p", 1)])

    def test_the_first_error_counts(self):
        one, two = plan_of("p q", ("p", "q", 0)), plan_of("p q", ("q", "p", 0))
        clashing = plan_of([("p", "a")])
        with self.assertRaises(ZeroRing):
            joined(one, two, clashing)
        with self.assertRaises(Clash) as caught:
            joined(one, clashing, two)
        self.assertEqual(caught.exception.name, "p")

    def test_nothing_is_changed(self):
        plans = [plan_of("p q", ("p", "q", 4)), plan_of("p q", ("p", "q", 2)), plan_of("q r", ("q", "r", 0))]
        before = [state(plan) for plan in plans]
        self.assertEqual(joined(*plans).rules(), [("p", "q", 2), ("q", "r", 0)])
        self.assertEqual([state(plan) for plan in plans], before)
