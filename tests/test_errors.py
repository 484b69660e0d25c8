import unittest

from lookrows import errors
from tests.samples import Hostile

# The list of the interface: each error with its attributes in their order.
LISTED = {
    "BadName": ["name"],
    "NameTaken": ["name"],
    "NoStep": ["name"],
    "NoFile": ["name"],
    "NoReader": ["name"],
    "NoRow": ["name"],
    "Clash": ["name"],
    "SameStep": ["name"],
    "SameFile": ["name"],
    "BadNumber": ["value"],
    "ZeroRing": ["members"],
    "BadItem": ["place"],
    "NotYet": ["place", "step"],
    "NoSet": ["members"],
    "Barred": ["pieces"],
    "NotKept": ["first", "second"],
    "NoRule": ["first", "second"],
    "TooEarly": ["place"],
    "TooFar": ["first", "second"],
    "BadGaps": [],
    "EmptyRow": [],
    "NothingBack": [],
    "BadLine": ["line"],
}

OBJECTS = [
    None, True, False, 0, -1, 10 ** 60, 10 ** 5000, 1.5, "", "a", "no name", "{}", "%s", b"a", (), ("a", "b"), [], [1],
    {}, {"a": 1}, {1}, object(), Hostile(), ValueError, ValueError("a"), len,
]


def classes():
    return {name: getattr(errors, name) for name in LISTED}


class ErrorsTest(unittest.TestCase):
    def test_look_error_is_a_value_error(self):
        self.assertEqual(errors.LookError.__bases__, (ValueError,))
        self.assertTrue(issubclass(errors.LookError, ValueError))
        with self.assertRaises(ValueError):
            raise errors.LookError("a")

    def test_each_error_is_a_look_error(self):
        for name, kind in classes().items():
            with self.subTest(name):
                self.assertTrue(issubclass(kind, errors.LookError))
                self.assertIsNot(kind, errors.LookError)
                self.assertEqual(kind.__name__, name)
                self.assertEqual(kind.__module__, "lookrows.errors")

    def test_no_other_two_are_subclasses_of_each_other(self):
        for one_name, one in classes().items():
            for two_name, two in classes().items():
                if one_name != two_name:
                    self.assertFalse(issubclass(one, two), (one_name, two_name))

    def test_there_is_no_error_beyond_the_list(self):
        found = [name for name, x in vars(errors).items() if isinstance(x, type)]
        self.assertEqual(sorted(found), sorted([*LISTED, "LookError"]))

    def test_the_objects_are_kept_in_their_order(self):
        for name, attributes in LISTED.items():
            for place in range(len(OBJECTS)):
                passed = [OBJECTS[(place + 3 * k) % len(OBJECTS)] for k in range(len(attributes))]
                error = getattr(errors, name)(*passed)
                for attribute, x in zip(attributes, passed):
                    self.assertIs(getattr(error, attribute), x, (name, attribute))

    def test_each_error_can_be_raised_and_caught(self):
        for name, attributes in LISTED.items():
            kind = getattr(errors, name)
            for base in (kind, errors.LookError, ValueError):
                with self.assertRaises(base) as caught:
                    raise kind(*attributes)
                self.assertEqual([getattr(caught.exception, x) for x in attributes], attributes)

    def test_errors_do_not_share_their_attributes(self):
        first, second = errors.NotYet(1, "a"), errors.NotYet(2, "b")
        self.assertEqual((first.place, first.step, second.place, second.step), (1, "a", 2, "b"))
