"""What the tests check over and over."""

import unittest


class Case(unittest.TestCase):
    """A test case that tells True from 1, and that looks at what arguments become."""

    def call(self, function, *args, **named):
        """Return what the function returns or raises, and check that its arguments stay as they are."""
        before = repr((args, named))
        try:
            return function(*args, **named)
        except Exception as error:
            return error
        finally:
            self.assertEqual(repr((args, named)), before)

    def check_answer(self, function, args, expected):
        """Check that exactly True or False is returned, the one that is expected."""
        self.assertIs(self.call(function, *args), expected, (function, args))

    def check_same(self, function, args, expected):
        """Check that a value is returned that is equal, with all its parts of the same kinds."""
        self.assertEqual(repr(self.call(function, *args)), repr(expected), (function, args))

    def check_raises(self, kind, field, value, function, *args):
        """Check that an error of just this class is raised, with the value itself as the field."""
        error = self.call(function, *args)
        self.assertIs(type(error), kind, (error, function, args))
        self.assertEqual(list(vars(error)), [field])
        self.assertIs(getattr(error, field), value)
