"""What is made from one or two tables, and the sets of a table: promises [25] to [28]."""

import unittest
from inspect import isgenerator
from itertools import islice, permutations, product
from random import Random

from lookrows.bounds import Bounds
from lookrows.errors import BadNumber, NoFile, NoSet
from tests.samples import (
    NOT_INTEGERS, Hostile, bounds_of, entries, has_set, random_bounds, ring_sum, slow_closed, slow_sets,
)

GREAT = 10 ** 60 - 1
NO_SET = (("a", "b", 1), ("b", "a", -2))


def pairs_of_tables(many, seed, same, share=0.5):
    """Pairs of small tables: over the same names in any order, or each over up to three of five names."""
    random = Random(seed)
    for _ in range(many):
        names = random.sample("abcde", random.randint(0, 3))
        pair = []
        for _ in range(2):
            bounds = Bounds(random.sample(names, len(names)) if same else random.sample("abcde", random.randint(0, 3)))
            for a, b in permutations(bounds.names, 2):
                if random.random() < share:
                    bounds[a, b] = random.randint(-2, 3)
            pair.append(bounds)
        yield pair


def wide_union(one, two):
    """The union of two tables with sets by its definition: the greater one of the two closed entries."""
    first, second = slow_closed(one)[1], slow_closed(two)[1]
    return one.names, {pair: max(first[pair], second[pair]) for pair in first if pair in second}


class TableTest(unittest.TestCase):
    def no_set(self, one, two, act, telling):
        """The action raises NoSet with a ring of the telling table and changes neither table."""
        before = entries(one), entries(two)
        with self.assertRaises(NoSet) as caught:
            act()
        ring = caught.exception.members
        self.assertIsInstance(ring, tuple)
        self.assertEqual(len(set(ring)), len(ring))
        self.assertGreaterEqual(len(ring), 2)
        self.assertLess(ring_sum(telling, ring), 0)
        self.assertEqual((entries(one), entries(two)), before)

    def no_file(self, one, two, told):
        """one | two and one |= two raise NoFile and change neither table."""
        def change(x):
            x |= two

        before = entries(one), entries(two)
        for act in [lambda: one | two, lambda: change(one)]:
            with self.assertRaises(NoFile) as caught:
                act()
            self.assertEqual(caught.exception.name, told)
            self.assertEqual((entries(one), entries(two)), before)

    def shares_nothing(self, made, *tables):
        """Changing what was made changes none of the tables, and the other way round."""
        before = [entries(table) for table in tables]
        kept = entries(made)
        a, b = made.names[:2]
        made[a, b] = -77
        made[b, a] = None
        self.assertEqual([entries(table) for table in tables], before)
        made[a, b], made[b, a] = kept[1].get((a, b)), kept[1].get((b, a))
        for table in tables:
            x, y = table.names[:2]
            table[x, y] = -88
            table[y, x] = None
        self.assertEqual(entries(made), kept)


class AndTest(TableTest):
    def test_the_smaller_entries(self):
        one = bounds_of("a b c", ("a", "b", 3), ("b", "a", -1), ("c", "a", 5))
        two = bounds_of("a b c", ("a", "b", 2), ("b", "a", 0), ("b", "c", -4))
        expected = {("a", "b"): 2, ("b", "a"): -1, ("c", "a"): 5, ("b", "c"): -4}
        self.assertEqual(entries(one & two), (("a", "b", "c"), expected))
        self.assertEqual(entries(two & one), (("a", "b", "c"), expected))

    def test_other_orders_and_other_names(self):
        one = bounds_of("d a", ("d", "a", 3), ("a", "d", 1))
        two = bounds_of("c a b d", ("d", "a", 1), ("c", "b", 7), ("a", "d", 4))
        self.assertEqual(entries(one & two), (("d", "a", "c", "b"), {("d", "a"): 1, ("a", "d"): 1, ("c", "b"): 7}))
        self.assertEqual(entries(two & one), (("c", "a", "b", "d"), {("d", "a"): 1, ("a", "d"): 1, ("c", "b"): 7}))
        three = bounds_of("x y", ("x", "y", 0))
        self.assertEqual(entries(one & three)[0], ("d", "a", "x", "y"))
        self.assertEqual((one & three)["x", "a"], None)

    def test_over_no_names(self):
        one = bounds_of("a b", ("a", "b", 3))
        for both in [one & Bounds([]), Bounds([]) & one, one & one]:
            self.assertIsInstance(both, Bounds)
            self.assertEqual(entries(both), entries(one))
        self.assertEqual(entries(Bounds([]) & Bounds([])), ((), {}))

    def test_it_is_not_closed_and_may_have_no_set(self):
        one = bounds_of("a b c", ("a", "b", 1), ("a", "c", 9))
        two = bounds_of("b c a", ("b", "c", 1), ("c", "a", -3))
        both = one & two
        self.assertEqual(both["a", "c"], 9)
        self.assertIs(bool(both), False)
        none = bounds_of("a b", *NO_SET)
        self.assertEqual(entries(none & bounds_of("a b", ("a", "b", 7))), entries(none))

    def test_great_numbers(self):
        one, two = bounds_of("a b", ("a", "b", GREAT)), bounds_of("a b", ("a", "b", -GREAT))
        self.assertEqual((one & two)["a", "b"], -GREAT)

    def test_in_place(self):
        one = bounds_of("d a", ("d", "a", 3))
        two = bounds_of("c a d", ("d", "a", 1), ("c", "a", 7))
        same, before = one, entries(two)
        one &= two
        self.assertIs(one, same)
        self.assertEqual(entries(one), (("d", "a", "c"), {("d", "a"): 1, ("c", "a"): 7}))
        self.assertEqual((one.names, len(one)), (("d", "a", "c"), 3))
        self.assertEqual(entries(two), before)
        self.shares_nothing(one, two)
        one &= one
        self.assertEqual(entries(one), (("d", "a", "c"), {("d", "a"): 1, ("c", "a"): 7}))

    def test_it_shares_nothing(self):
        one = bounds_of("a b", ("a", "b", 3), ("b", "a", 3))
        two = bounds_of("b a c", ("a", "b", 2), ("c", "a", 1))
        self.shares_nothing(one & two, one, two)

    def test_random_tables(self):
        for one, two in pairs_of_tables(60, 41, False):
            before = entries(one), entries(two)
            both = one & two
            self.assertEqual(both.names, one.names + tuple(x for x in two.names if x not in one.names))
            if len(both) <= 4:
                for editions in product(range(-1, 3), repeat=len(both)):
                    x = dict(zip(both.names, editions))
                    parts = [{name: x[name] for name in table.names} for table in (one, two)]
                    self.assertIs(x in both, parts[0] in one and parts[1] in two)
            self.assertEqual((entries(one), entries(two)), before)

    def test_something_else(self):
        bounds = bounds_of("a b")
        for x in [None, 1, {}]:
            with self.assertRaises(TypeError):
                bounds & x
            with self.assertRaises(TypeError):
                bounds | x
            with self.assertRaises(TypeError):
                bounds &= x
            with self.assertRaises(TypeError):
                bounds |= x
            with self.assertRaises(TypeError):
                bounds <= x


class OrTest(TableTest):
    def test_the_greater_closed_entries(self):
        one = bounds_of("a b c", ("a", "b", 1), ("b", "c", 1), ("a", "c", 9))
        two = bounds_of("a b c", ("a", "b", 4), ("b", "c", -3), ("c", "b", 3))
        expected = {("a", "b"): 4, ("b", "c"): 1, ("a", "c"): 2}
        self.assertEqual(entries(one | two), (("a", "b", "c"), expected))
        self.assertEqual(entries(two | one), (("a", "b", "c"), expected))
        self.assertIsInstance(one | two, Bounds)

    def test_another_order_of_names(self):
        one = bounds_of("c a b", ("a", "b", 1), ("b", "a", 2))
        two = bounds_of("b c a", ("a", "b", 0), ("b", "a", 3), ("c", "a", 1))
        self.assertEqual(entries(one | two), (("c", "a", "b"), {("a", "b"): 1, ("b", "a"): 3}))
        self.assertEqual(entries(two | one), (("b", "c", "a"), {("a", "b"): 1, ("b", "a"): 3}))

    def test_over_no_and_one_name(self):
        self.assertEqual(entries(Bounds([]) | Bounds([])), ((), {}))
        self.assertEqual(entries(Bounds(["a"]) | Bounds(["a"])), (("a",), {}))

    def test_one_without_a_set(self):
        none = bounds_of("a b c", *NO_SET, ("a", "c", -99))
        some = bounds_of("c b a", ("b", "c", 1), ("c", "a", 2), ("b", "a", 7))
        closed = {("b", "c"): 1, ("c", "a"): 2, ("b", "a"): 3}
        self.assertEqual(entries(none | some), (("a", "b", "c"), closed))
        self.assertEqual(entries(some | none), (("c", "b", "a"), closed))

    def test_both_without_a_set(self):
        one = bounds_of("a b c", *NO_SET)
        two = bounds_of("c a b", ("a", "c", 0), ("c", "b", 0), ("b", "a", -1))
        self.no_set(one, two, lambda: one | two, one)
        self.no_set(one, two, lambda: two | one, two)
        self.no_set(one, two, lambda: one.__ior__(two), one)
        self.no_set(one, one, lambda: one | one, one)

    def test_names_that_the_other_table_does_not_have(self):
        one, two = bounds_of("d b a c"), bounds_of("a e f d")
        self.no_file(one, two, "b")
        self.no_file(two, one, "e")
        self.no_file(bounds_of("a d"), two, "e")
        self.no_file(two, bounds_of("a d"), "e")
        self.no_file(bounds_of("a b"), Bounds([]), "a")
        self.no_file(Bounds([]), bounds_of("b a"), "b")

    def test_names_come_before_missing_sets(self):
        one, two = bounds_of("a b", *NO_SET), bounds_of("a b c", *NO_SET)
        self.no_file(one, two, "c")
        self.no_file(two, one, "c")

    def test_in_place(self):
        one = bounds_of("a b c", ("a", "b", 1), ("b", "c", 1))
        two = bounds_of("c b a", ("a", "b", 4), ("b", "c", -3))
        same, before = one, entries(two)
        one |= two
        self.assertIs(one, same)
        self.assertEqual(entries(one), (("a", "b", "c"), {("a", "b"): 4, ("b", "c"): 1, ("a", "c"): 2}))
        self.assertEqual(entries(two), before)
        self.shares_nothing(one, two)

    def test_in_place_with_one_set(self):
        for first, second in [(NO_SET, [("a", "b", 3)]), ([("a", "b", 3)], NO_SET)]:
            one, two = bounds_of("b a", *first), bounds_of("a b", *second)
            before = entries(two)
            one |= two
            self.assertEqual(entries(one), (("b", "a"), {("a", "b"): 3}))
            self.assertEqual(entries(two), before)
            self.shares_nothing(one, two)

    def test_in_place_with_itself(self):
        bounds = bounds_of("a b c", ("a", "b", 1), ("b", "c", 1))
        bounds |= bounds
        self.assertEqual(bounds["a", "c"], 2)

    def test_it_shares_nothing(self):
        for first, second in [([("a", "b", 1)], [("a", "b", 4)]), (NO_SET, [("a", "b", 4)]), ([("a", "b", 4)], NO_SET)]:
            one, two = bounds_of("a b", *first), bounds_of("b a", *second)
            self.shares_nothing(one | two, one, two)

    def test_random_tables(self):
        found = {2: 0, 1: 0, 0: 0}
        for one, two in pairs_of_tables(300, 42, True):
            before = entries(one), entries(two)
            many = has_set(one) + has_set(two)
            found[many] += 1
            if many == 2:
                both = one | two
                self.assertEqual(entries(both), wide_union(one, two))
                self.assertEqual(entries(both.closed()), entries(both))
                self.assertTrue(one <= both and two <= both)
            elif many == 1:
                some = one if one else two
                self.assertEqual(entries(one | two), (one.names, slow_closed(some)[1]))
            else:
                self.no_set(one, two, lambda: one | two, one)
            self.assertEqual((entries(one), entries(two)), before)
        self.assertGreater(min(found.values()), 3)


class AtMostTest(TableTest):
    def test_entries(self):
        one = bounds_of("a b c", ("a", "b", 1), ("b", "c", 1))
        for more, expected in [
            ([], True), ([("a", "c", 2)], True), ([("a", "c", 1)], False), ([("a", "b", 1)], True),
            ([("a", "b", 0)], False), ([("b", "a", 99)], False), ([("a", "b", 9), ("b", "c", 9)], True),
        ]:
            self.assertIs(one <= bounds_of("a b c", *more), expected, more)
            self.assertIs(one <= bounds_of("c a b", *more), expected, more)

    def test_other_names(self):
        one = bounds_of("a b")
        for names in ["a", "a b c", "a c", "", "b"]:
            self.assertIs(one <= bounds_of(names), False)
            self.assertIs(bounds_of(names) <= one, False)
        none = bounds_of("a b", *NO_SET)
        self.assertIs(none <= bounds_of("a b c"), False)
        self.assertIs(none <= bounds_of("a c"), False)
        self.assertIs(bounds_of("a b c") <= none, False)

    def test_tables_without_a_set(self):
        none = bounds_of("a b c", *NO_SET)
        for other in [
            none, bounds_of("a b c"), bounds_of("c b a", ("a", "c", -99)),
            bounds_of("b a c", ("a", "c", 0), ("c", "a", -1)),
        ]:
            self.assertIs(none <= other, True)
        self.assertIs(bounds_of("a b c") <= none, False)
        self.assertIs(bounds_of("c a b", ("a", "b", -9)) <= none, False)

    def test_over_no_and_one_name(self):
        self.assertIs(Bounds([]) <= Bounds([]), True)
        self.assertIs(Bounds(["a"]) <= Bounds(["a"]), True)
        self.assertIs(Bounds(["a"]) <= Bounds(["b"]), False)

    def test_random_tables(self):
        found = {True: 0, False: 0}
        for one, two in pairs_of_tables(300, 43, True, 0.7):
            before = entries(one), entries(two)
            expected = all(dict(zip(one.names, editions)) in two for editions in slow_sets(one, -5, 5))
            self.assertIs(one <= two, expected)
            found[expected] += 1
            self.assertEqual((entries(one), entries(two)), before)
        self.assertGreater(min(found.values()), 20)


class ShiftTest(TableTest):
    def setUp(self):
        self.bounds = bounds_of("c a b", ("a", "b", 3), ("b", "c", -2), ("c", "b", 0))
        self.before = entries(self.bounds)

    def test_minus(self):
        made = -self.bounds
        self.assertIsInstance(made, Bounds)
        self.assertEqual(entries(made), (("c", "a", "b"), {("b", "a"): 3, ("c", "b"): -2, ("b", "c"): 0}))
        self.assertEqual(entries(-made), self.before)
        self.assertEqual(entries(-Bounds([])), ((), {}))
        self.assertEqual(entries(self.bounds), self.before)
        self.shares_nothing(made, self.bounds)

    def test_greater_and_less(self):
        for n in [0, 1, 7, GREAT, 10 ** 70]:
            for made, sign in [(self.bounds << n, 1), (self.bounds >> n, -1)]:
                self.assertIsInstance(made, Bounds)
                self.assertIsNot(made, self.bounds)
                self.assertEqual(entries(made), (
                    ("c", "a", "b"), {("a", "b"): 3 + sign * n, ("b", "c"): -2 + sign * n, ("c", "b"): sign * n},
                ))
                self.assertEqual(made["a", "a"], 0)
            self.assertEqual(entries(self.bounds << n >> n), self.before)
        self.assertEqual(entries(self.bounds), self.before)
        self.assertEqual([entries(Bounds([]) << 3), entries(Bounds(["a"]) >> 3)], [((), {}), (("a",), {})])

    def test_they_share_nothing(self):
        for n in [0, 2]:
            self.shares_nothing(self.bounds << n, self.bounds)
            self.shares_nothing(self.bounds >> n, self.bounds)

    def test_bad_numbers(self):
        for x in NOT_INTEGERS + [None, -1, -GREAT, Hostile(), self.bounds]:
            for act in [lambda: self.bounds << x, lambda: self.bounds >> x]:
                for bounds in (self.bounds, Bounds([])):
                    with self.assertRaises(BadNumber) as caught:
                        act()
                    self.assertIs(caught.exception.value, x)
            with self.assertRaises(BadNumber):
                Bounds([]) << x
            with self.assertRaises(BadNumber):
                Bounds([]) >> x
        self.assertEqual(entries(self.bounds), self.before)


class SpreadTest(TableTest):
    def test_few_names(self):
        self.assertEqual((Bounds([]).spread(), Bounds(["a"]).spread()), (0, 0))
        self.assertIsInstance(Bounds(["a"]).spread(), int)

    def test_the_greatest_closed_entry(self):
        bounds = bounds_of("a b c", ("a", "b", 3), ("b", "c", -2), ("c", "a", 4))
        self.assertEqual(bounds.spread(), 7)
        bounds["c", "b"] = 5
        self.assertEqual(bounds.spread(), 5)
        bounds["a", "c"] = 99
        self.assertEqual(bounds.spread(), 5)
        self.assertEqual(bounds_of("a b", ("a", "b", 0), ("b", "a", 0)).spread(), 0)
        self.assertEqual(bounds_of("a b", ("a", "b", -4), ("b", "a", 4)).spread(), 4)
        self.assertEqual(bounds_of("a b", ("a", "b", -GREAT), ("b", "a", GREAT)).spread(), GREAT)

    def test_none(self):
        self.assertIsNone(bounds_of("a b").spread())
        self.assertIsNone(bounds_of("a b", ("a", "b", 3)).spread())
        self.assertIsNone(bounds_of("a b c", ("a", "b", 3), ("b", "a", 3), ("c", "a", 1), ("c", "b", 1)).spread())
        self.assertEqual(bounds_of("a b c", ("a", "b", 3), ("b", "c", 3), ("c", "a", 1)).spread(), 6)

    def test_no_set(self):
        for more in [[], [("c", "a", 1)], [("a", "c", 0), ("c", "a", 0)]]:
            bounds = bounds_of("a b c", *NO_SET, *more)
            self.no_set(bounds, bounds, bounds.spread, bounds)

    def test_random_tables(self):
        for bounds in random_bounds(150, 4, -2, 4, seed=44, share=0.7):
            if has_set(bounds):
                closed = slow_closed(bounds)[1]
                full = len(closed) == len(bounds) * (len(bounds) - 1)
                self.assertEqual(bounds.spread(), max(closed.values(), default=0) if full else None)
            else:
                self.no_set(bounds, bounds, bounds.spread, bounds)


class SetsTest(TableTest):
    def test_one_and_several_names(self):
        self.assertEqual(list(Bounds(["a"]).sets(3)), [(0,), (1,), (2,), (3,)])
        self.assertEqual(list(bounds_of("a b").sets(1)), [(0, 0), (0, 1), (1, 0), (1, 1)])
        bounds = bounds_of("b a c", ("a", "b", 0), ("c", "a", -1))
        self.assertEqual(list(bounds.sets(2)), [(1, 1, 0), (2, 1, 0), (2, 2, 0), (2, 2, 1)])
        self.assertEqual(list(bounds.sets(0)), [])
        self.assertEqual(list(bounds_of("a b c").sets(0)), [(0, 0, 0)])

    def test_no_names(self):
        for most in [0, 1, 1000, GREAT]:
            self.assertEqual(list(Bounds([]).sets(most)), [()])

    def test_tables_without_a_set(self):
        self.assertEqual(list(bounds_of("a b", *NO_SET).sets(5)), [])
        self.assertEqual(list(bounds_of("a b c", *NO_SET).sets(3)), [])

    def test_great_entries(self):
        self.assertEqual(list(bounds_of("a b", ("a", "b", GREAT)).sets(1)), list(product(range(2), repeat=2)))
        self.assertEqual(list(bounds_of("a b", ("a", "b", -GREAT)).sets(1)), [])

    def test_a_generator_of_tuples(self):
        found = bounds_of("a b").sets(2)
        self.assertTrue(isgenerator(found))
        self.assertEqual(next(found), (0, 0))
        self.assertIsInstance(next(found), tuple)
        self.assertEqual(len(list(found)), 7)

    def test_a_wrong_most_raises_when_iterated(self):
        for x in NOT_INTEGERS + [None, -1, -GREAT, Hostile()]:
            for bounds in [bounds_of("a b", ("a", "b", 1)), Bounds([]), bounds_of("a b", *NO_SET)]:
                before = entries(bounds)
                found = bounds.sets(x)
                with self.assertRaises(BadNumber) as caught:
                    next(found)
                self.assertIs(caught.exception.value, x)
                with self.assertRaises(BadNumber):
                    list(bounds.sets(x))
                self.assertEqual(entries(bounds), before)

    def test_a_change_of_the_table_changes_no_begun_iteration(self):
        bounds = bounds_of("a b", ("a", "b", 0))
        found = bounds.sets(2)
        first = next(found)
        bounds["a", "b"] = None
        bounds["b", "a"] = -9
        self.assertEqual([first, *found], [(0, 0), (0, 1), (0, 2), (1, 1), (1, 2), (2, 2)])

    def test_iterations_are_apart(self):
        bounds = bounds_of("a b", ("b", "a", 0))
        one, two = bounds.sets(1), bounds.sets(1)
        self.assertEqual([next(one), next(one), next(two)], [(0, 0), (1, 0), (0, 0)])
        self.assertEqual((list(one), list(two)), ([(1, 1)], [(1, 0), (1, 1)]))

    def test_the_limits(self):
        self.assertEqual(list(Bounds(["a"]).sets(1000)), [(k,) for k in range(1001)])
        for many, most in [(2, 69), (3, 16), (4, 7), (5, 4), (6, 3), (7, 2), (12, 1), (10, 1), (10, 0)]:
            names = [f"f{k}" for k in range(many)]
            self.assertEqual(list(Bounds(names).sets(most)), list(product(range(most + 1), repeat=many)))
        self.assertEqual(list(islice(bounds_of("a b c").sets(99), 3)), [(0, 0, 0), (0, 0, 1), (0, 0, 2)])

    def test_random_tables(self):
        for bounds in random_bounds(150, 4, -2, 3, seed=45, share=0.5):
            before = entries(bounds)
            for most in range(4):
                self.assertEqual(list(bounds.sets(most)), slow_sets(bounds, 0, most))
            self.assertEqual(entries(bounds), before)

    def test_each_set_is_in_the_table(self):
        bounds = bounds_of("d a c b", ("d", "a", -1), ("a", "c", 2), ("b", "d", 0), ("c", "b", 1))
        found = list(bounds.sets(6))
        self.assertEqual(found, sorted(set(found)))
        self.assertTrue(all(dict(zip(bounds.names, editions)) in bounds for editions in found))
        self.assertEqual(found, slow_sets(bounds, 0, 6))
