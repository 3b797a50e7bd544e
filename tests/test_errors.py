"""Point 4, and the errors of the interface."""

import inspect
import unittest

from claimclasses import errors
from claimclasses.errors import ClaimError
from tests.helpers import ERRORS


class ErrorsTest(unittest.TestCase):

    def test_base_class_is_a_value_error(self):
        self.assertTrue(issubclass(ClaimError, ValueError))
        self.assertEqual(ClaimError.__module__, "claimclasses.errors")
        self.assertIsInstance(ClaimError(), ClaimError)

    def test_each_error_is_defined_here_directly_below_the_base_class(self):
        for name in ERRORS:
            error = getattr(errors, name)
            self.assertTrue(inspect.isclass(error), name)
            self.assertEqual(error.__bases__, (ClaimError,), name)
            self.assertEqual((error.__name__, error.__module__), (name, "claimclasses.errors"))

    def test_arguments_are_stored_under_their_names(self):
        values = (0, 7, -1, 10 ** 29, -(10 ** 5000), True, None, 1.5, "ann", "", b"x", (0, 1), [1, [2]], {"a": 1}, {3})
        for name, arguments in ERRORS.items():
            for value in values:
                error = getattr(errors, name)(*[value for _ in arguments])
                for argument in arguments:
                    stored = getattr(error, argument)
                    self.assertEqual(stored, value, name)
                    self.assertEqual(type(stored), type(value), name)

    def test_each_error_is_caught_as_a_claim_error(self):
        for name, arguments in ERRORS.items():
            with self.assertRaises(ClaimError) as caught:
                raise getattr(errors, name)(*[5 for _ in arguments])
            self.assertEqual([getattr(caught.exception, argument) for argument in arguments], [5 for _ in arguments])


if __name__ == "__main__":
    unittest.main()
