"""watched and counted, and what every run keeps: promises [16] to [19]."""

import unittest

from lookrows.errors import BadItem, NoFile, NoStep, NotYet
from lookrows.plans import Plan
from lookrows.runs import counted, watched
from tests.samples import NOT_INTEGERS, NOT_NAMES, Hostile, great_plan, plan_of, random_plans, slow_least, state

NO_ITEMS = [
    None, True, 0, 1, "do", "look", "", b"do", 1.5, {}, set(), object(), tuple, Hostile(), [],
    ["do", "p"], ["look", 0, "a"], {"do": "p"}, {"do", "p"}, "dp",
    (), ("do",), ("look",), ("p",), ("look", 0), ("look", "a"), ("do", "p", 0), ("do", "p", "p"), ("do", "p", None),
    ("look", 0, "a", 0), ("look", 0, "a", "a"), ("do", 0, "a"), ("look", "p"), ("p", "do"), (0, "look", "a"),
    ("", "p"), ("Do", "p"), ("DO", "p"), ("do ", "p"), ("d", "p"), ("done", "p"), ("Look", 0, "a"), ("see", 0, "a"),
    ("looks", 0, "a"), (b"do", "p"), (None, "p"), (True, "p"), (Hostile(), "p"), (Hostile(), 0, "a"), (["do"], "p"),
    (("do", "p"),), (("do",), "p"), (Hostile(),), (Hostile(), Hostile()), (Hostile(), Hostile(), Hostile()),
]


def do(*steps):
    return [("do", step) for step in steps]


class RunTest(unittest.TestCase):
    def refused(self, error, told, plan, items):
        """Both functions raise this error, which tells just this, and change nothing."""
        before, kept = state(plan), list(items)
        for function in (watched, counted):
            with self.assertRaises(error) as caught:
                function(plan, items)
            self.assertIs(caught.exception.__class__, error)
            if error is NotYet:
                self.assertEqual((caught.exception.place, caught.exception.step), told)
            elif error is BadItem:
                self.assertEqual(caught.exception.place, told)
                self.assertIsInstance(caught.exception.place, int)
            else:
                self.assertEqual(caught.exception.name, told)
            self.assertEqual(len(items), len(kept))
            self.assertTrue(all(one is two for one, two in zip(items, kept)))
            self.assertEqual(state(plan), before)


class WatchedTest(RunTest):
    def test_what_looks_show(self):
        plan = plan_of([("p", "a", "b"), ("q", "c"), ("r",)])
        items = [
            ("look", 0, "a"), ("do", "p"), ("look", 0, "a"), ("look", 0, "b"), ("look", 0, "c"), ("do", "r"),
            ("do", "p"), ("do", "q"), ("look", 0, "b"), ("look", 0, "c"), ("look", 0, "c"),
        ]
        self.assertEqual(watched(plan, items), [
            (0, "a", 0), (0, "a", 1), (0, "b", 1), (0, "c", 0), (0, "b", 2), (0, "c", 1), (0, "c", 1),
        ])
        self.assertEqual(counted(plan, items), {"p": 2, "q": 1, "r": 1})

    def test_runs_without_items_or_looks(self):
        plan = plan_of([("p", "a"), ("q",)])
        self.assertEqual(watched(plan, []), [])
        self.assertEqual(counted(plan, []), {"p": 0, "q": 0})
        self.assertEqual(watched(plan, do("p", "p", "q")), [])
        self.assertEqual(counted(plan, [("look", 0, "a")]), {"p": 0, "q": 0})
        self.assertEqual((watched(Plan(), []), counted(Plan(), [])), ([], {}))

    def test_several_readers(self):
        plan = plan_of([("p", "a"), ("q", "b")])
        great = 10 ** 60 - 1
        items = [
            ("look", 7, "a"), ("do", "p"), ("look", 0, "a"), ("look", great, "b"), ("do", "q"), ("look", 7, "b"),
            ("look", 10 ** 70, "a"), ("look", 0, "a"),
        ]
        self.assertEqual(watched(plan, items), [
            (7, "a", 0), (0, "a", 1), (great, "b", 0), (7, "b", 1), (10 ** 70, "a", 1), (0, "a", 1),
        ])
        self.assertEqual(counted(plan, items), {"p": 1, "q": 1})

    def test_kinds_of_what_is_returned(self):
        plan = plan_of([("p", "a")])
        shown = watched(plan, [("do", "p"), ("look", 3, "a")])
        self.assertIsInstance(shown, list)
        self.assertIsInstance(shown[0], tuple)
        self.assertIsInstance(counted(plan, []), dict)

    def test_what_is_returned_is_new(self):
        plan = plan_of([("p", "a")])
        items = [("do", "p"), ("look", 3, "a")]
        watched(plan, items).clear()
        counted(plan, items).clear()
        self.assertEqual(watched(plan, items), [(3, "a", 1)])
        self.assertEqual(counted(plan, items), {"p": 1})
        shown, many = watched(plan, items), counted(plan, items)
        items.clear()
        plan.define("q")
        self.assertEqual((shown, many), ([(3, "a", 1)], {"p": 1}))

    def test_nothing_is_changed(self):
        plan = plan_of([("p", "a"), ("q", "b")], ("p", "q", 0))
        items = [("look", 0, "a"), ("do", "p"), ("do", "q"), ("look", 1, "b")]
        before, kept = state(plan), list(items)
        watched(plan, items)
        counted(plan, items)
        self.assertEqual((state(plan), items), (before, kept))

    def test_a_step_and_a_file_of_one_name(self):
        plan = plan_of([("p", "q"), ("q", "p")])
        self.assertEqual(
            watched(plan, [("do", "p"), ("do", "p"), ("do", "q"), ("look", 0, "q"), ("look", 0, "p")]),
            [(0, "q", 2), (0, "p", 1)],
        )

    def test_long_runs(self):
        plan = great_plan()
        for step in plan.steps:
            for other in plan.steps:
                if step != other:
                    plan[step, other] = None
        items = []
        for k in range(100):
            items.extend(do("s0", "s3") + [("look", k, "f0"), ("look", 99 - k, "f3")])
        self.assertEqual(len(items), 400)
        expected = []
        for k in range(100):
            expected.extend([(k, "f0", k + 1), (99 - k, "f3", k + 1)])
        self.assertEqual(watched(plan, items), expected)
        self.assertEqual(counted(plan, items * 5)["s0"], 500)


class RefusedTest(RunTest):
    def test_items_of_a_wrong_form(self):
        plan = plan_of([("p", "a"), ("q",)])
        for x in NO_ITEMS:
            self.refused(BadItem, 0, plan, [x])
            self.refused(BadItem, 2, plan, [("do", "p"), ("look", 0, "a"), x, ("do", "p")])

    def test_readers_that_are_no_numbers(self):
        plan = plan_of([("p", "a")])
        for x in NOT_INTEGERS + [None, -1, -(10 ** 60), Hostile()]:
            self.refused(BadItem, 1, plan, [("do", "p"), ("look", x, "a")])

    def test_steps_and_files_that_are_no_strings(self):
        plan = plan_of([("p", "a")])
        for x in [None, True, 0, 1, b"p", ("p",), ["p"], {"p"}, {"p": 1}, object(), Hostile()]:
            self.refused(BadItem, 0, plan, [("do", x)])
            self.refused(BadItem, 0, plan, [("look", 0, x)])

    def test_strangers(self):
        plan = plan_of([("p", "a"), ("q", "b")])
        for x in [x for x in NOT_NAMES if isinstance(x, str)] + ["r", "pq", "do", "look"]:
            self.refused(NoStep, x, plan, [("do", x)])
            self.refused(NoFile, x, plan, [("look", 0, x)])
        self.refused(NoStep, "a", plan, [("do", "p"), ("do", "a")])
        self.refused(NoFile, "p", plan, [("do", "p"), ("look", 1, "p")])
        self.refused(NoStep, "p", Plan(), do("p"))
        self.refused(NoFile, "a", Plan(), [("look", 0, "a")])

    def test_the_first_wrong_item_counts(self):
        plan = plan_of([("p", "a"), ("q", "b")], ("p", "q", 0))
        wrong = {
            BadItem: (("do",), 1),
            NoStep: (("do", "x"), "x"),
            NoFile: (("look", 0, "y"), "y"),
            NotYet: (("do", "q"), (1, "p")),
        }
        for error, (item, told) in wrong.items():
            for other, _ in wrong.values():
                self.refused(error, told, plan, [("look", 0, "a"), item, other])
                self.refused(error, told, plan, [("look", 0, "a"), item, other, item])

    def test_a_bad_reader_comes_before_a_strange_file(self):
        plan = plan_of([("p", "a")])
        for x in [True, -1, "0", None]:
            self.refused(BadItem, 0, plan, [("look", x, "zz")])
        self.refused(BadItem, 0, plan, [("do", "zz", 1)])

    def test_rules_of_each_shift(self):
        for shift in [0, 1, 2, 5, 99]:
            plan = plan_of("p q", ("p", "q", shift))
            early = do("q") * shift
            self.assertEqual(counted(plan, early), {"p": 0, "q": shift})
            self.refused(NotYet, (shift, "p"), plan, early + do("q"))
            self.refused(NotYet, (shift + 2, "p"), plan, do("p") + early + do("q", "q"))
            self.assertEqual(counted(plan, early + do("p", "q", "p", "q")), {"p": 2, "q": shift + 2})

    def test_not_yet_tells_the_first_step_in_the_order_of_the_plan(self):
        plan = plan_of("c a b q", ("b", "q", 0), ("a", "q", 1), ("c", "q", 2))
        self.refused(NotYet, (0, "b"), plan, do("q"))
        self.refused(NotYet, (2, "a"), plan, do("b", "q", "q"))
        self.refused(NotYet, (5, "c"), plan, do("a", "b", "b", "q", "q", "q"))
        self.refused(NotYet, (4, "a"), plan, do("b", "q", "c", "b", "q", "a"))
        self.assertEqual(counted(plan, do("c", "a", "a", "b", "b", "b", "q", "q", "q"))["q"], 3)
        plan = plan_of("q z y x", ("x", "q", 0), ("y", "q", 0), ("z", "q", 0))
        for done, told in [([], "z"), (["z"], "y"), (["y"], "z"), (["z", "y"], "x"), (["x", "z"], "y")]:
            self.refused(NotYet, (len(done), told), plan, do(*done, "q"))

    def test_only_rules_count_for_not_yet(self):
        plan = plan_of("p q r", ("p", "q", 0), ("q", "r", 0))
        self.refused(NotYet, (0, "q"), plan, do("r"))
        self.refused(NotYet, (0, "p"), plan, do("q"))
        self.refused(NotYet, (1, "q"), plan, do("p", "r"))

    def test_a_place_counts_looks_too(self):
        plan = plan_of([("p", "a"), ("q", "b")], ("p", "q", 0))
        self.refused(NotYet, (3, "p"), plan, [("look", 0, "a"), ("look", 0, "b"), ("look", 0, "a"), ("do", "q")])


class KeptTest(unittest.TestCase):
    """[19]: what stands in every run, against all runs with few occurrences."""

    def runs(self, plan, most):
        """A run for each possible table of occurrences with at most so many of each step, by these tables."""
        found = {tuple(0 for _ in plan.steps): []}
        waiting = list(found)
        while waiting:
            many = waiting.pop()
            for step in plan.steps:
                items = found[many] + do(step)
                try:
                    after = tuple(counted(plan, items).values())
                except NotYet as error:
                    self.assertEqual(error.place, len(items) - 1)
                    continue
                if after not in found and max(after) <= most:
                    found[after] = items
                    waiting.append(after)
        return found

    def check(self, plan, most):
        found = self.runs(plan, most)
        places = {step: place for place, step in enumerate(plan.steps)}
        for p in plan.steps:
            for q in plan.steps:
                shift = slow_least(plan, p, q)
                for i in range(1, most + 1):
                    for j in range(1, most + 1):
                        if (p, i) != (q, j):
                            without = [x for x in found if x[places[q]] >= j and x[places[p]] < i]
                            self.assertEqual(without == [], shift is not None and j - i >= shift, (p, q, i, j))

    def test_one_plan(self):
        plan = plan_of("p q r", ("p", "q", 1), ("q", "r", 0))
        self.check(plan, 4)
        found = self.runs(plan, 4)
        self.assertIn((0, 1, 1), found)
        self.assertNotIn((0, 2, 0), found)
        self.assertNotIn((0, 0, 1), found)

    def test_a_ring(self):
        self.check(plan_of("p q r", ("p", "q", 0), ("q", "r", 0), ("r", "p", 2)), 4)
        self.check(plan_of("p q", ("p", "q", 1), ("q", "p", 0)), 5)

    def test_random_plans(self):
        for plan in random_plans(25, 3, 2, seed=21):
            self.check(plan, 3)

    def test_a_look_shows_what_must_stand_before_it(self):
        plan = plan_of([("p", "a"), ("q", "b"), ("r", "c")], ("p", "q", 1), ("q", "r", 1))
        items = do("q", "r", "r", "p", "q", "r") + [("look", 0, "c"), ("look", 0, "a")]
        self.assertEqual(watched(plan, items), [(0, "c", 3), (0, "a", 1)])
        # p(1) precedes r(3) by the way through q.
        items.remove(("do", "p"))
        with self.assertRaises(NotYet) as caught:
            watched(plan, items)
        self.assertEqual((caught.exception.place, caught.exception.step), (3, "p"))
