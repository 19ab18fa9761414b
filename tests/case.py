"""What the tests check over and over."""

import unittest

from decreedays.book import Book
from decreedays.errors import NoText


def picture(thing):
    """Return a text that tells values apart that are unequal or of other kinds, and shows all that a book keeps."""
    if isinstance(thing, Book):
        return repr((thing.first_rule, thing.first_date, thing.recorded, thing.withdrawn))
    if isinstance(thing, (list, tuple)):
        return f"{type(thing).__name__}({', '.join([picture(part) for part in thing])})"
    if isinstance(thing, dict):
        return f"dict({picture(list(thing.items()))})"
    return repr(thing)


class Case(unittest.TestCase):
    """A test case that tells True from 1, and that looks at what arguments become."""

    def call(self, function, *args, **named):
        """Return what the function returns or raises, and check that its arguments stay as they are."""
        before = picture((args, named))
        try:
            return function(*args, **named)
        except Exception as error:
            return error
        finally:
            self.assertEqual(picture((args, named)), before)

    def check_answer(self, function, args, expected):
        """Check that exactly True or False is returned, the one that is expected."""
        self.assertIs(self.call(function, *args), expected, (function, args))

    def check_same(self, function, args, expected):
        """Check that a value is returned that is equal, with all its parts of the same kinds."""
        self.assertEqual(picture(self.call(function, *args)), picture(expected), (function, args))

    def check_raises(self, kind, field, value, function, *args, **named):
        """Check that an error of just this class is raised, with the value itself as the field."""
        error = self.call(function, *args, **named)
        self.assertIs(type(error), kind, (error, function, args))
        self.assertEqual(list(vars(error)), [field])
        self.assertIs(getattr(error, field), value)

    def check_place(self, place, function, text):
        """Check that the text is refused with this place."""
        # An error that keeps a number it made itself does not keep the very object of the test.
        error = self.call(function, text)
        self.assertIs(type(error), NoText, (error, function, text))
        self.assertEqual(repr(vars(error)), repr({"place": place}), (function, text))
