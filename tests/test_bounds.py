"""Bounds as tables of entries, their rings, closed tables and sets: promises [20] to [24]."""

import unittest
from itertools import permutations, product
from random import Random

from lookrows.bounds import Bounds
from lookrows.errors import BadName, BadNumber, NameTaken, NoFile, NoSet, SameFile
from tests.samples import (
    NOT_INTEGERS, NOT_NAMES, Hostile, bounds_of, entries, has_set, random_bounds, ring_sum, rings, slow_closed,
    slow_sets,
)

GREAT = 10 ** 60 - 1


class BoundsTest(unittest.TestCase):
    def refused(self, error, told, bounds, act):
        """The action raises this error, which tells just this object, and changes nothing."""
        before = entries(bounds)
        with self.assertRaises(error) as caught:
            act()
        self.assertIs(caught.exception.__class__, error)
        self.assertIs(caught.exception.value if error is BadNumber else caught.exception.name, told)
        self.assertEqual(entries(bounds), before)

    def is_ring(self, bounds, ring):
        """The tuple is a ring of different files with a sum below 0."""
        self.assertIsInstance(ring, tuple)
        self.assertGreaterEqual(len(ring), 2)
        self.assertEqual(len(set(ring)), len(ring))
        self.assertLess(ring_sum(bounds, ring), 0)


class NamesTest(BoundsTest):
    def test_of_a_tuple_and_of_a_list(self):
        for names in [("b", "a", "c1"), ["b", "a", "c1"]]:
            bounds = Bounds(names)
            self.assertEqual(bounds.names, ("b", "a", "c1"))
            self.assertIsInstance(bounds.names, tuple)
            self.assertEqual(len(bounds), 3)
            for a, b in product(names, repeat=2):
                self.assertEqual(bounds[a, b], 0 if a == b else None)

    def test_over_no_and_one_name(self):
        for names in [(), []]:
            self.assertEqual((Bounds(names).names, len(Bounds(names))), ((), 0))
        bounds = Bounds(["abcdefgh"])
        self.assertEqual((bounds.names, len(bounds), bounds["abcdefgh", "abcdefgh"]), (("abcdefgh",), 1, 0))

    def test_the_list_is_not_shared(self):
        names = ["a", "b"]
        bounds = Bounds(names)
        names.append("c")
        self.assertEqual((bounds.names, names), (("a", "b"), ["a", "b", "c"]))

    def test_bad_names(self):
        for x in NOT_NAMES + [Hostile()]:
            for names in [[x], ["a", x], ["a", "a", x, "B"], (x, "B"), ("b", x)]:
                with self.assertRaises(BadName) as caught:
                    Bounds(names)
                self.assertIs(caught.exception.name, x)

    def test_names_twice(self):
        for names, told in [
            (["a", "a"], "a"), (("a", "b", "c", "b", "a"), "b"), (["a", "b", "c", "a", "b"], "a"),
            (["a", "b", "b", "a"], "b"),
        ]:
            with self.assertRaises(NameTaken) as caught:
                Bounds(names)
            self.assertEqual(caught.exception.name, told)

    def test_bad_names_come_before_names_twice(self):
        with self.assertRaises(BadName) as caught:
            Bounds(["a", "a", "A"])
        self.assertEqual(caught.exception.name, "A")

    def test_ten_names_and_more(self):
        names = [f"f{k}" for k in range(14)]
        bounds = Bounds(names)
        for a, b in permutations(names, 2):
            bounds[a, b] = int(a[1:]) - int(b[1:])
        self.assertEqual((len(bounds), bool(bounds), bounds.ring()), (14, True, None))
        self.assertEqual(entries(bounds.closed()), entries(bounds))
        self.assertIn({name: 5 + int(name[1:]) for name in names}, bounds)

    def test_bounds_are_not_iterated_over(self):
        with self.assertRaises(TypeError):
            list(bounds_of("a b"))


class EntryTest(BoundsTest):
    def test_integers_of_any_size(self):
        bounds = bounds_of("a b c")
        for n in [0, 1, -1, 60, -60, 99, 100, GREAT, -GREAT, 10 ** 80, -(10 ** 80)]:
            bounds["b", "a"] = n
            self.assertEqual(entries(bounds), (("a", "b", "c"), {("b", "a"): n}))
            self.assertIsNone(bounds["a", "b"])

    def test_replacing_and_removing(self):
        bounds = bounds_of("a b", ("a", "b", 3), ("b", "a", 4))
        bounds["a", "b"] = -7
        self.assertEqual((bounds["a", "b"], bounds["b", "a"]), (-7, 4))
        bounds["a", "b"] = None
        self.assertEqual((bounds["a", "b"], bounds["b", "a"]), (None, 4))
        bounds["a", "b"] = None
        self.assertEqual((bounds["a", "b"], bounds["b", "a"]), (None, 4))

    def test_an_entry_is_just_what_was_set(self):
        bounds = bounds_of("a b c", ("a", "b", 1), ("b", "c", 1), ("a", "c", 9))
        self.assertEqual(bounds["a", "c"], 9)

    def test_tables_are_apart(self):
        one, two = bounds_of("a b"), bounds_of("a b")
        one["a", "b"] = 1
        self.assertIsNone(two["a", "b"])

    def test_strange_names(self):
        bounds = bounds_of("a b", ("a", "b", 3))
        for x in NOT_NAMES + ["c", "ab", Hostile()]:
            for a, b in [(x, "a"), ("a", x), (x, x), (x, "zz")]:
                self.refused(NoFile, x, bounds, lambda: bounds[a, b])
                for n in [1, None, True, Hostile()]:
                    self.refused(NoFile, x, bounds, lambda: bounds.__setitem__((a, b), n))
        self.refused(NoFile, "a", Bounds([]), lambda: Bounds([])["a", "a"])

    def test_the_same_file_twice(self):
        bounds = bounds_of("a b", ("a", "b", 3))
        for n in [0, 1, None, True, "0", Hostile()]:
            self.refused(SameFile, "a", bounds, lambda: bounds.__setitem__(("a", "a"), n))

    def test_entries_that_are_no_integers(self):
        bounds = bounds_of("a b", ("a", "b", 3))
        for x in NOT_INTEGERS + ["None", Hostile()]:
            self.refused(BadNumber, x, bounds, lambda: bounds.__setitem__(("a", "b"), x))
            self.refused(BadNumber, x, bounds, lambda: bounds.__setitem__(("b", "a"), x))


class RingTest(BoundsTest):
    def test_sums_around_0(self):
        for shares in [(3, -4), (-4, 3), (0, -1), (-1, 0), (2, 3, -6), (-6, 2, 3), (0, 0, 0, -1), (-1, -1, -1)]:
            names = ["d", "a", "c", "b"][:len(shares)]
            bounds = Bounds(names)
            for k, n in enumerate(shares):
                bounds[names[k - 1], names[k]] = n
            self.is_ring(bounds, bounds.ring())
            self.assertEqual(sorted(bounds.ring()), sorted(names))
            self.assertIs(bool(bounds), False)
            for more in [-sum(shares), 1 - sum(shares)]:
                bounds[names[-1], names[0]] = shares[0] + more
                self.assertIsNone(bounds.ring())
                self.assertIs(bool(bounds), True)

    def test_a_ring_has_the_direction_of_the_entries(self):
        bounds = bounds_of(
            "a b c", ("a", "b", -1), ("b", "c", 0), ("c", "a", 0), ("b", "a", 5), ("c", "b", 5), ("a", "c", 5)
        )
        self.assertIn(bounds.ring(), [("a", "b", "c"), ("b", "c", "a"), ("c", "a", "b")])
        self.assertIn((-bounds).ring(), [("c", "b", "a"), ("b", "a", "c"), ("a", "c", "b")])

    def test_a_ring_behind_a_path(self):
        bounds = bounds_of(
            "a b c d e", ("a", "b", -9), ("b", "c", -9), ("c", "d", 1), ("d", "c", -2), ("d", "e", -9), ("e", "a", 99)
        )
        self.assertIn(bounds.ring(), [("c", "d"), ("d", "c")])

    def test_no_ring(self):
        bounds = bounds_of("a b c", ("a", "b", -GREAT), ("b", "c", -GREAT), ("a", "c", -5))
        self.assertIsNone(bounds.ring())
        self.assertIs(bool(bounds), True)

    def test_bool_over_no_and_one_name(self):
        for names in [[], ["a"]]:
            self.assertIs(bool(Bounds(names)), True)
            self.assertIsNone(Bounds(names).ring())

    def test_numbers_of_60_digits(self):
        bounds = bounds_of("a b c", ("a", "b", GREAT), ("b", "c", -GREAT), ("c", "a", 0))
        self.assertIsNone(bounds.ring())
        bounds["c", "a"] = -1
        self.is_ring(bounds, bounds.ring())

    def test_random_tables(self):
        found = {True: 0, False: 0}
        for bounds in random_bounds(300, 5, -3, 5, seed=31):
            before = entries(bounds)
            expected = has_set(bounds)
            found[expected] += 1
            self.assertIs(bool(bounds), expected)
            if expected:
                self.assertIsNone(bounds.ring())
            else:
                self.is_ring(bounds, bounds.ring())
                self.assertIn((ring_sum(bounds, bounds.ring()), bounds.ring()), rings(bounds))
            self.assertEqual(entries(bounds), before)
        self.assertGreater(min(found.values()), 50)

    def test_random_tables_over_ten_names(self):
        random = Random(32)
        names = [f"f{k}" for k in range(10)]
        found = 0
        for _ in range(40):
            bounds = Bounds(names)
            for a, b in permutations(names, 2):
                if random.random() < 0.3:
                    bounds[a, b] = random.randint(-2, 9)
            if bounds:
                self.assertIsNone(bounds.ring())
                closed = bounds.closed()
                reached = [[b for b in names if closed[a, b] is not None] for a in names]
                lowest = {a: min(closed[a, b] for b in others) for a, others in zip(names, reached)}
                self.assertIn(lowest, bounds)
            else:
                found += 1
                self.is_ring(bounds, bounds.ring())
        self.assertIn(found, range(5, 36))


class ClosedTest(BoundsTest):
    def no_set(self, bounds, act):
        """The action raises NoSet with a ring of the table, which stays as it is."""
        before = entries(bounds)
        with self.assertRaises(NoSet) as caught:
            act()
        self.is_ring(bounds, caught.exception.members)
        self.assertEqual(entries(bounds), before)

    def test_paths(self):
        bounds = bounds_of("c a b d", ("a", "b", 2), ("b", "c", -5), ("a", "c", 0), ("c", "a", 4), ("d", "a", 1))
        closed = bounds.closed()
        self.assertEqual(closed.names, ("c", "a", "b", "d"))
        self.assertEqual(entries(closed)[1], {
            ("a", "b"): 2, ("b", "c"): -5, ("a", "c"): -3, ("c", "a"): 4, ("b", "a"): -1, ("c", "b"): 6,
            ("d", "a"): 1, ("d", "b"): 3, ("d", "c"): -2,
        })
        self.assertEqual([closed["a", "d"], closed["d", "d"]], [None, 0])

    def test_a_smaller_path_replaces_an_entry(self):
        bounds = bounds_of("a b c", ("a", "c", 9), ("a", "b", 1), ("b", "c", 1))
        self.assertEqual(bounds.closed()["a", "c"], 2)
        bounds["a", "c"] = 1
        self.assertEqual(bounds.closed()["a", "c"], 1)

    def test_over_no_and_one_name(self):
        self.assertEqual(entries(Bounds([]).closed()), ((), {}))
        self.assertEqual(entries(Bounds(["a"]).closed()), (("a",), {}))
        self.assertEqual(entries(bounds_of("a b").closed()), (("a", "b"), {}))

    def test_the_closed_table_is_a_table_of_its_own(self):
        bounds = bounds_of("a b c", ("a", "b", 1), ("b", "c", 1), ("a", "c", 2))
        before = entries(bounds)
        closed = bounds.closed()
        self.assertIsInstance(closed, Bounds)
        self.assertIsNot(closed, bounds)
        closed["a", "b"] = 7
        closed["b", "c"] = None
        self.assertEqual(entries(bounds), before)
        closed = bounds.closed()
        kept = entries(closed)
        bounds["a", "b"] = -4
        bounds["b", "c"] = None
        self.assertEqual(entries(closed), kept)

    def test_no_set(self):
        for bounds in [
            bounds_of("a b", ("a", "b", 0), ("b", "a", -1)),
            bounds_of("a b c d", ("a", "b", 3), ("b", "c", 3), ("c", "a", -7), ("d", "a", 0)),
            bounds_of("a b", ("a", "b", -GREAT), ("b", "a", GREAT - 1)),
        ]:
            self.no_set(bounds, bounds.closed)
            self.no_set(bounds, bounds.spread)

    def test_numbers_of_60_digits(self):
        bounds = bounds_of("a b c", ("a", "b", GREAT), ("b", "c", GREAT), ("c", "a", -GREAT))
        self.assertEqual(entries(bounds.closed())[1], {
            ("a", "b"): GREAT, ("b", "c"): GREAT, ("a", "c"): 2 * GREAT, ("c", "a"): -GREAT, ("b", "a"): 0,
            ("c", "b"): 0,
        })

    def test_random_tables(self):
        for bounds in random_bounds(200, 5, -3, 5, seed=33, share=0.4):
            if has_set(bounds):
                closed = bounds.closed()
                self.assertEqual(entries(closed), slow_closed(bounds))
                self.assertEqual(entries(closed.closed()), entries(closed))
            else:
                self.no_set(bounds, bounds.closed)

    def test_the_same_sets_and_each_entry_is_reached(self):
        for bounds in random_bounds(60, 3, -2, 3, seed=34, share=0.5):
            if not bounds:
                self.assertEqual(slow_sets(bounds, -6, 6), [])
                continue
            closed = bounds.closed()
            found = slow_sets(bounds, -6, 6)
            self.assertEqual(slow_sets(closed, -6, 6), found)
            for a, b in permutations(bounds.names, 2):
                places = bounds.names.index(a), bounds.names.index(b)
                ahead = max(editions[places[0]] - editions[places[1]] for editions in found)
                if closed[a, b] is None:
                    self.assertGreater(ahead, 5)
                else:
                    self.assertEqual(ahead, closed[a, b])


class SetTest(BoundsTest):
    def setUp(self):
        self.bounds = bounds_of("b a c", ("a", "b", 1), ("b", "a", 0), ("c", "a", -2), ("b", "c", 9))

    def test_in(self):
        for x in [
            {"a": 5, "b": 5, "c": 3}, {"c": 3, "b": 5, "a": 5}, {"b": 4, "a": 5, "c": 3}, {"a": 0, "b": 0, "c": -2},
            {"a": -7, "b": -7, "c": -16}, {"a": GREAT, "b": GREAT, "c": GREAT - 2},
        ]:
            self.assertIs(x in self.bounds, True, x)

    def test_entries_that_are_not_met(self):
        for x in [
            {"a": 5, "b": 3, "c": 3}, {"a": 5, "b": 6, "c": 3}, {"a": 5, "b": 5, "c": 4}, {"a": 5, "b": 5, "c": -5},
            {"a": GREAT, "b": 0, "c": -GREAT},
        ]:
            self.assertIs(x in self.bounds, False, x)

    def test_a_key_too_few_or_too_many(self):
        good = {"a": 5, "b": 5, "c": 3}
        self.assertIs(good in self.bounds, True)
        for name in good:
            self.assertIs({key: good[key] for key in good if key != name} in self.bounds, False)
            renamed = {key + "x" if key == name else key: good[key] for key in good}
            self.assertIs(renamed in self.bounds, False)
        for key in ["d", "", 0, None, ("a",)]:
            self.assertIs({**good, key: 3} in self.bounds, False)
        self.assertIs({} in self.bounds, False)

    def test_values_that_are_no_integers(self):
        for x in NOT_INTEGERS + [None, Hostile()]:
            for name in "abc":
                self.assertIs({**{"a": 0, "b": 0, "c": -2}, name: x} in self.bounds, False)
            self.assertIs({"a": x} in Bounds(["a"]), False)

    def test_things_that_are_no_dicts(self):
        for x in [
            None, 0, 1, True, "a", "", (), [], [("a", 5), ("b", 5), ("c", 3)], {"a", "b", "c"}, set(), object(), dict,
            Hostile(), self.bounds, ("a", "b", "c"), (5, 5, 3),
        ]:
            self.assertIs(x in self.bounds, False)
            self.assertIs(x in Bounds([]), False)

    def test_over_no_and_one_name(self):
        self.assertIs({} in Bounds([]), True)
        self.assertIs({"a": 0} in Bounds([]), False)
        for n in [0, -5, GREAT]:
            self.assertIs({"a": n} in Bounds(["a"]), True)
        self.assertIs({"b": 1} in Bounds(["a"]), False)
        self.assertEqual((Bounds([])({}), Bounds([])({"a": 1}), Bounds(["a"])({"a": 1})), ([], [], []))

    def test_a_call_lists_the_entries_that_are_not_met(self):
        for x, expected in [
            ({"a": 5, "b": 5, "c": 3}, []),
            ({"c": 3, "a": 5, "b": 3}, [("a", "b")]),
            ({"a": 0, "b": 1, "c": -2}, [("b", "a")]),
            ({"a": 0, "b": 20, "c": 0}, [("b", "a"), ("b", "c"), ("c", "a")]),
            ({"a": 0, "b": -5, "c": 7}, [("a", "b"), ("c", "a")]),
        ]:
            self.assertEqual(self.bounds(x), expected)
            self.assertIsInstance(self.bounds(x), list)
            self.assertIs(x in self.bounds, expected == [])

    def test_the_order_of_the_pairs(self):
        bounds = Bounds(("d", "b", "a", "c"))
        for a, b in permutations("abcd", 2):
            bounds[a, b] = -1
        self.assertEqual(bounds(dict.fromkeys("abcd", 4)), list(permutations("dbac", 2)))

    def test_a_call_ignores_other_keys(self):
        x = {"a": 5, "b": 3, "c": 3, "d": None, 0: Hostile(), None: True}
        self.assertEqual(self.bounds(x), [("a", "b")])
        self.assertIs(x in self.bounds, False)

    def test_a_call_needs_a_key_for_each_name(self):
        for x, told in [
            ({}, "b"), ({"c": 1}, "b"), ({"b": 1}, "a"), ({"b": 1, "c": 1}, "a"), ({"a": 1, "b": 1, "d": 1}, "c"),
            ({"b": None}, "a"), ({"b": True, "a": True}, "c"),
        ]:
            with self.assertRaises(NoFile) as caught:
                self.bounds(x)
            self.assertEqual(caught.exception.name, told)

    def test_a_call_needs_integers(self):
        for x in NOT_INTEGERS + [None, Hostile()]:
            for editions in [{"b": x, "a": "no", "c": None}, {"c": "no", "a": x, "b": 1}, {"b": 99, "a": 0, "c": x}]:
                self.refused(BadNumber, x, self.bounds, lambda: self.bounds(editions))

    def test_nothing_is_changed_or_shared(self):
        before = entries(self.bounds)
        x = {"a": 0, "b": 20, "c": 0, "d": 1}
        kept = dict(x)
        self.bounds(x).clear()
        self.assertEqual(len(self.bounds(x)), 3)
        self.assertIs(x in self.bounds, False)
        self.assertEqual((x, entries(self.bounds)), (kept, before))

    def test_random_tables(self):
        for bounds in random_bounds(60, 3, -2, 2, seed=35):
            found = slow_sets(bounds, -2, 2)
            for editions in product(range(-2, 3), repeat=len(bounds)):
                x = dict(zip(bounds.names, editions))
                self.assertIs(x in bounds, editions in found)
                expected = [
                    (a, b) for a, b in permutations(bounds.names, 2)
                    if bounds[a, b] is not None and x[a] - x[b] > bounds[a, b]
                ]
                self.assertEqual(bounds(x), expected)
