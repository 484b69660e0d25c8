"""Row and shortest: promises [29] to [33]."""

import unittest
from itertools import product

from lookrows.errors import BadName, BadNumber, NoFile
from lookrows.rows import Row, shortest
from tests.readers import random_rows, row_of
from tests.samples import NOT_INTEGERS, NOT_NAMES, Hostile


def slow_before(looks, a, b):
    """Whether some look at a precedes some look at b, from all pairs of looks."""
    return any(looks[i] == a and looks[j] == b for j in range(len(looks)) for i in range(j))


def slow_blocks(looks):
    """The blocks, from the letters that the document lets write."""
    written = []
    for place, file in enumerate(looks):
        if file not in looks[:place]:
            written.append(("F", file))
        if file not in looks[place + 1:]:
            written.append(("L", file))
    blocks = []
    while written:
        block = []
        for letter in "FL":
            stretch = []
            while written and written[0][0] == letter:
                stretch.append(written.pop(0)[1])
            block.append(tuple(sorted(stretch)))
        blocks.append(tuple(block))
    return blocks


class RowTest(unittest.TestCase):
    def test_of_a_tuple_and_of_a_list(self):
        for files in [("b", "a1", "b", "c", "a1"), ["b", "a1", "b", "c", "a1"]]:
            row = Row(files)
            self.assertEqual(row.looks, ("b", "a1", "b", "c", "a1"))
            self.assertEqual(row.files, ("b", "a1", "c"))
            self.assertIsInstance(row.looks, tuple)
            self.assertIsInstance(row.files, tuple)
            self.assertEqual(len(row), 5)

    def test_without_looks(self):
        for row in [Row([]), Row(())]:
            self.assertEqual((row.looks, row.files, len(row)), ((), (), 0))
            self.assertNotIn("a", row)

    def test_the_order_of_the_files(self):
        for looks, files in [("aaa", "a"), ("zaz", "za"), ("cbabc", "cba"), ("abcdcba", "abcd"), ("dd", "d")]:
            self.assertEqual(row_of(looks).files, tuple(files))

    def test_the_list_is_not_shared(self):
        files = ["a", "b"]
        row = Row(files)
        files.append("c")
        files[0] = "d"
        self.assertEqual((row.looks, row.files), (("a", "b"), ("a", "b")))
        self.assertEqual(files, ["d", "b", "c"])

    def test_bad_names(self):
        for x in NOT_NAMES + [Hostile()]:
            for files in [[x], ["a", x], ("a", "a", x, "B"), [x, "B"]]:
                with self.assertRaises(BadName) as caught:
                    Row(files)
                self.assertIs(caught.exception.name, x)

    def test_a_look_by_its_place(self):
        row = row_of("cabc")
        self.assertEqual([row[k] for k in range(4)], ["c", "a", "b", "c"])

    def test_places_that_are_none(self):
        for looks in ["cabc", "a", ""]:
            row = row_of(looks)
            places = [-1, -2, len(row), len(row) + 1, -len(row) - 1, 40, 10 ** 60 - 1, -(10 ** 60), None, slice(0, 1)]
            for x in NOT_INTEGERS + places + [Hostile()]:
                with self.assertRaises(BadNumber) as caught:
                    row[x]
                self.assertIs(caught.exception.value, x)

    def test_in(self):
        row = row_of("cabc")
        for file in "abc":
            self.assertIs(file in row, True)
        for x in NOT_NAMES + ["d", "ca", ("c", "a"), row, Hostile()]:
            self.assertIs(x in row, False)
            self.assertIs(x in Row([]), False)

    def test_a_row_is_not_iterated_over(self):
        with self.assertRaises(TypeError):
            list(row_of("ab"))

    def test_forty_looks_and_more(self):
        looks = tuple(f"f{k % 10}" for k in range(40))
        row = Row(looks)
        self.assertEqual((row.looks, len(row), len(row.files), row[39]), (looks, 40, 10, "f9"))
        self.assertEqual(len(Row(looks * 3)), 120)


class MadeTest(unittest.TestCase):
    def test_sums(self):
        one, two = row_of("aba"), row_of("ca")
        self.assertIsInstance(one + two, Row)
        self.assertEqual((one + two).looks, tuple("abaca"))
        self.assertEqual((two + one).looks, tuple("caaba"))
        self.assertEqual((one + two).files, ("a", "b", "c"))
        self.assertEqual([(one + Row([])).looks, (Row([]) + one).looks], [tuple("aba")] * 2)
        self.assertEqual((one + one).looks, tuple("abaaba"))
        self.assertEqual((one.looks, two.looks), (tuple("aba"), tuple("ca")))

    def test_a_sum_with_something_else(self):
        row = row_of("ab")
        for x in [None, 1, "a", ["a"], ("a",)]:
            with self.assertRaises(TypeError):
                row + x

    def test_products(self):
        row = row_of("aba")
        for n in [0, 1, 2, 7, 40, 60]:
            for made in [row * n, n * row]:
                self.assertIsInstance(made, Row)
                self.assertEqual(made.looks, tuple("aba") * n)
                self.assertEqual(made.files, ("a", "b") if n else ())
            self.assertEqual([(Row([]) * n).looks, (n * Row([])).looks], [(), ()])
        self.assertEqual(row.looks, tuple("aba"))
        self.assertEqual(len(40 * row_of("abcdefghij" * 4)), 1600)

    def test_factors_that_may_not_stand(self):
        for row in [row_of("aba"), Row([])]:
            for x in NOT_INTEGERS + [None, -1, -(10 ** 60), row]:
                for act in [lambda: row * x, lambda: x * row]:
                    with self.assertRaises(BadNumber) as caught:
                        act()
                    self.assertIs(caught.exception.value, x)
            self.assertIn(row.looks, [tuple("aba"), ()])

    def test_minus(self):
        row = row_of("aabc")
        self.assertIsInstance(-row, Row)
        self.assertEqual((-row).looks, tuple("cbaa"))
        self.assertEqual((-row).files, tuple("cba"))
        self.assertEqual((-Row([])).looks, ())
        self.assertEqual((- -row).looks, row.looks)
        self.assertEqual(row.looks, tuple("aabc"))

    def test_equal_rows(self):
        row = row_of("aba")
        for other, expected in [
            (row, True), (row_of("aba"), True), (Row(("a", "b", "a")), True), (row_of("ab") + row_of("a"), True),
            (-row, True), (row_of("abaa"), False), (row_of("ab"), False), (row_of("bab"), False),
            (row_of("aab"), False), (Row([]), False),
        ]:
            self.assertIs(row == other, expected)
            self.assertIs(other == row, expected)
            self.assertIs(row != other, not expected)
        self.assertIs(Row([]) == Row(()), True)

    def test_things_that_are_no_rows(self):
        row = row_of("aba")
        for x in [None, 0, 1, True, False, "aba", "", [], (), ["a", "b", "a"], ("a", "b", "a"), {}, object(), Row]:
            self.assertIs(row == x, False)
            self.assertIs(x == row, False)
            self.assertIs(row != x, True)
            self.assertIs(Row([]) == x, False)
        self.assertIs(row == Hostile(), False)


class BeforeTest(unittest.TestCase):
    def test_looks_before_looks(self):
        row = row_of("abcb")
        for a, b, expected in [
            ("a", "b", True), ("b", "a", False), ("b", "c", True), ("c", "b", True), ("a", "c", True),
            ("c", "a", False), ("a", "a", False), ("b", "b", True), ("c", "c", False),
        ]:
            self.assertIs(row.before(a, b), expected, (a, b))

    def test_a_file_and_itself(self):
        self.assertIs(row_of("a").before("a", "a"), False)
        self.assertIs(row_of("aa").before("a", "a"), True)
        self.assertIs(row_of("aba").before("a", "a"), True)
        self.assertIs(row_of("aba").before("b", "b"), False)

    def test_files_that_are_missing(self):
        row = row_of("ab")
        for x in NOT_NAMES + ["c", "ab", Hostile()]:
            for a, b in [(x, "a"), ("a", x), (x, x), (x, "zz")]:
                with self.assertRaises(NoFile) as caught:
                    row.before(a, b)
                self.assertIs(caught.exception.name, x)
        with self.assertRaises(NoFile) as caught:
            row.before("d", "c")
        self.assertEqual(caught.exception.name, "d")
        with self.assertRaises(NoFile):
            Row([]).before("a", "a")

    def test_all_small_rows(self):
        for count in range(5):
            for looks in product("abc", repeat=count):
                row = Row(looks)
                for a, b in product(row.files, repeat=2):
                    self.assertIs(row.before(a, b), slow_before(looks, a, b))

    def test_at_most(self):
        for one, two, expected in [
            ("ab", "ab", True), ("ab", "ba", False), ("ab", "aba", True), ("aba", "ab", False), ("ab", "abab", True),
            ("aba", "bab", True), ("bab", "aba", True), ("aab", "ab", True), ("ab", "aab", True), ("", "", True),
            ("a", "aa", True), ("aa", "a", True), ("abc", "bca", False), ("abc", "abca", True), ("cab", "abcab", True),
        ]:
            self.assertIs(row_of(one) <= row_of(two), expected, (one, two))

    def test_at_most_with_other_files(self):
        for one, two in [("ab", "a"), ("ab", "abc"), ("ab", "ac"), ("", "a"), ("a", "b"), ("ab", "")]:
            self.assertIs(row_of(one) <= row_of(two), False)
            self.assertIs(row_of(two) <= row_of(one), False)

    def test_at_most_with_something_else(self):
        for x in [None, 1, "ab", ("a", "b")]:
            with self.assertRaises(TypeError):
                row_of("ab") <= x

    def test_random_rows(self):
        rows = list(random_rows(120, "abc", 6, 51))
        found = {True: 0, False: 0}
        for first, second in product(rows[:60], rows[60:]):
            one, two = Row(first), Row(second)
            expected = set(first) == set(second) and all(
                slow_before(second, a, b) for a in first for b in first if a != b and slow_before(first, a, b)
            )
            self.assertIs(one <= two, expected)
            found[expected] += 1
        self.assertGreater(min(found.values()), 100)


class BlocksTest(unittest.TestCase):
    def test_the_example_of_the_document(self):
        self.assertEqual(row_of("abac").blocks(), [(("a", "b"), ("a", "b")), (("c",), ("c",))])

    def test_blocks(self):
        for looks, expected in [
            ("", []),
            ("a", [("a", "a")]),
            ("aaaa", [("a", "a")]),
            ("ba", [("b", "b"), ("a", "a")]),
            ("bab", [("ab", "ab")]),
            ("baba", [("ab", "ab")]),
            ("cbab", [("c", "c"), ("ab", "ab")]),
            ("dcbabcd", [("abcd", "abcd")]),
            ("dcdbab", [("cd", "cd"), ("ab", "ab")]),
            ("cabac", [("abc", "abc")]),
            ("cacbab", [("ac", "c"), ("b", "ab")]),
            ("dacadbeb", [("acd", "acd"), ("be", "be")]),
            ("zyzxyw", [("yz", "z"), ("x", "xy"), ("w", "w")]),
        ]:
            found = row_of(looks).blocks()
            self.assertEqual(found, [(tuple(firsts), tuple(lasts)) for firsts, lasts in expected], looks)
            self.assertIsInstance(found, list)
            for block in found:
                self.assertIsInstance(block, tuple)
                self.assertEqual([part.__class__ for part in block], [tuple, tuple])

    def test_the_files_of_a_block_are_in_ascending_order(self):
        row = Row(["b", "a10", "c", "a2", "a", "b", "a10", "c", "a2", "a"])
        self.assertEqual(row.blocks(), [(("a", "a10", "a2", "b", "c"), ("a", "a10", "a2", "b", "c"))])

    def test_the_list_is_new(self):
        row = row_of("abac")
        row.blocks().clear()
        self.assertEqual(len(row.blocks()), 2)
        self.assertEqual(row.looks, tuple("abac"))

    def test_small_and_random_rows(self):
        few = [looks for count in range(6) for looks in product("cab", repeat=count)]
        for looks in few + list(random_rows(200, "fbdaecg", 12, 52)) + list(random_rows(50, "jihgfedcba", 40, 53)):
            self.assertEqual(Row(looks).blocks(), slow_blocks(looks), looks)

    def test_equal_blocks_and_equal_orders(self):
        rows = [Row(looks) for count in range(6) for looks in product("ab", repeat=count)]
        rows.extend(Row(looks) for looks in random_rows(80, "abc", 7, 54))
        for one in rows:
            for two in rows:
                if set(one.files) == set(two.files):
                    self.assertIs(one.blocks() == two.blocks(), one <= two and two <= one)


class ShortestTest(unittest.TestCase):
    def check(self, looks):
        """shortest has the same blocks and the promised number of looks."""
        row = Row(looks)
        made = shortest(row)
        self.assertIsInstance(made, Row)
        self.assertEqual(made.blocks(), row.blocks(), looks)
        shared = [block for block in row.blocks() if set(block[0]) & set(block[1])]
        self.assertEqual(len(made), 2 * len(row.files) - len(shared), looks)
        self.assertEqual(row.looks, tuple(looks))

    def test_rows(self):
        for looks, expected in [
            ("", 0), ("a", 1), ("aaa", 1), ("ab", 2), ("aba", 3), ("abab", 3), ("abac", 4), ("abcabc", 5),
            ("abcdabcd", 7), ("aabbcc", 3), ("cacbab", 4), ("zyzxyw", 5),
        ]:
            self.assertEqual(len(shortest(row_of(looks))), expected, looks)
            self.check(looks)

    def test_blocks_without_a_file_with_both(self):
        # The looks of b and c overlap those of a and d, and no file begins and ends in the second block.
        looks = "abacbdcd"
        self.assertEqual(row_of(looks).blocks(), [
            (("a", "b"), ("a",)), (("c",), ("b",)), (("d",), ("c", "d")),
        ])
        self.assertEqual(len(shortest(row_of(looks))), 2 * 4 - 2)
        self.check(looks)

    def test_as_few_looks_as_possible(self):
        for files, most in [("a", 3), ("ab", 4), ("abc", 6)]:
            least = {}
            for count in range(most + 1):
                for looks in product(files, repeat=count):
                    least.setdefault(repr(Row(looks).blocks()), count)
            for count in range(most + 1):
                for looks in product(files, repeat=count):
                    self.assertEqual(len(shortest(Row(looks))), least[repr(Row(looks).blocks())])

    def test_small_and_random_rows(self):
        few = [looks for count in range(6) for looks in product("cab", repeat=count)]
        for looks in few + list(random_rows(300, "fbdaecg", 14, 55)):
            self.check(looks)

    def test_rows_of_forty_looks(self):
        for looks in random_rows(60, "jihgfedcba", 40, 56):
            looks = (looks * 41)[:40]
            self.check(looks)
        self.check([f"f{k}" for k in range(20)] * 2)
        self.check([f"f{k}" for k in range(40)])

    def test_a_shortest_row_stays_so(self):
        for looks in random_rows(100, "abcde", 12, 57):
            made = shortest(Row(looks))
            self.assertEqual(len(shortest(made)), len(made))

    def test_the_row_is_new(self):
        row = row_of("ab")
        self.assertIsNot(shortest(row), row)
        self.assertEqual(shortest(row), row)
