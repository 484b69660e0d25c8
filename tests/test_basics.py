import unittest

from lookrows.basics import is_count, is_integer, is_name, least_sums, refuse_strangers, smaller_entries
from lookrows.errors import NoFile
from tests.samples import NOT_INTEGERS, NOT_NAMES, Hostile


class BasicsTest(unittest.TestCase):
    def test_names(self):
        for x in ["a", "z", "a0", "a9", "z0z", "abcdefgh", "a1234567", "az09", "rule", "none"]:
            self.assertIs(is_name(x), True, x)

    def test_each_character_of_a_name(self):
        for code in range(0, 0x250):
            x = chr(code)
            letter = "a" <= x <= "z"
            self.assertIs(is_name(x), letter, code)
            self.assertIs(is_name("a" + x), letter or "0" <= x <= "9", code)
            self.assertIs(is_name("abcdefg" + x), letter or "0" <= x <= "9", code)

    def test_no_names(self):
        for x in NOT_NAMES + [Hostile()]:
            self.assertIs(is_name(x), False)

    def test_integers(self):
        for x in [0, 1, -1, 99, 10 ** 60, -(10 ** 60)]:
            self.assertIs(is_integer(x), True)
            self.assertIs(is_count(x), x >= 0)

    def test_no_integers(self):
        for x in NOT_INTEGERS + [None, Hostile()]:
            self.assertIs(is_integer(x), False)
            self.assertIs(is_count(x), False)

    def test_strangers(self):
        refuse_strangers(("b", "a", "a"), ("a", "b"))
        refuse_strangers([], [])
        refuse_strangers(["a"], {"a": 1, None: 2})
        for names, first in [(("a", "c", "d"), "c"), ((["a"], "c"), ["a"]), (("a", None), None), (("",), "")]:
            with self.assertRaises(NoFile) as caught:
                refuse_strangers(names, ("a", "b"))
            self.assertEqual(caught.exception.name, first)

    def test_smaller_entries(self):
        one = {("a", "b"): 3, ("b", "a"): 1}
        two = {("a", "b"): 2, ("b", "a"): 4, ("a", "c"): 0}
        expected = {("a", "b"): 2, ("b", "a"): 1, ("a", "c"): 0}
        self.assertEqual(smaller_entries(one, two), expected)
        self.assertEqual(smaller_entries(two, one), expected)
        self.assertEqual(one, {("a", "b"): 3, ("b", "a"): 1})
        self.assertEqual(two, {("a", "b"): 2, ("b", "a"): 4, ("a", "c"): 0})

    def test_least_sums(self):
        entries = {("a", "b"): 5, ("b", "c"): -2, ("a", "c"): 4, ("d", "a"): 0}
        self.assertEqual(least_sums(["c", "d", "b", "a"], entries), {
            ("a", "a"): 0, ("b", "b"): 0, ("c", "c"): 0, ("d", "d"): 0,
            ("a", "b"): 5, ("b", "c"): -2, ("a", "c"): 3, ("d", "a"): 0, ("d", "b"): 5, ("d", "c"): 3,
        })
        self.assertEqual(entries, {("a", "b"): 5, ("b", "c"): -2, ("a", "c"): 4, ("d", "a"): 0})
        self.assertEqual(least_sums([], {}), {})
