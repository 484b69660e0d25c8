"""What the test cases share: whether a call is refused."""

import unittest

ANY = object()


class Case(unittest.TestCase):
    def refused(self, error, told, function, *values, **more):
        """The call raises an error of just this class, which keeps what is told; the error is returned.

        What is told is one thing, or a tuple if the error keeps several ones, or ANY.
        """
        with self.assertRaises(error) as caught:
            function(*values, **more)
        self.assertIs(caught.exception.__class__, error)
        kept = tuple(vars(caught.exception).values())
        if told is not ANY:
            found = kept[0] if len(kept) == 1 else kept
            # Some of the objects that are told refuse to be compared.
            self.assertTrue(found is told or isinstance(told, (str, tuple, int)) and found == told, (error, kept))
        return caught.exception
