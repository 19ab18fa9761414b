"""The fourteen error classes: their bases and their fields."""

import inspect

from decreedays import errors
from decreedays.errors import NoDate, NoRule
from decreedays.rules import date_at, has_date, least_rule, number_of
from tests import reference
from tests.case import Case
from tests.samples import L, R, STRANGE, nested

TABLE = {
    "NoRule": (ValueError, "rule"),
    "NoDate": (ValueError, "date"),
    "NoDecree": (TypeError, "decree"),
    "NoDay": (IndexError, "day"),
    "NoCount": (ArithmeticError, "count"),
    "NoName": (ValueError, "name"),
    "Taken": (RuntimeError, "name"),
    "Unknown": (KeyError, "name"),
    "NoContract": (TypeError, "contract"),
    "Unlike": (RuntimeError, None),
    "TooMany": (OverflowError, "limit"),
    "NoText": (ValueError, "place"),
    "NoCommand": (ValueError, None),
    "NoBook": (LookupError, None),
}
FIELDS = {name: field for name, (base, field) in TABLE.items() if field}
# Longer than what Python writes out in decimal digits.
HUGE = 10 ** 5000


class ErrorClassesTest(Case):
    def test_just_these_classes_exist(self):
        found = [name for name, thing in vars(errors).items() if inspect.isclass(thing)]
        self.assertEqual(sorted(found), sorted(TABLE))

    def test_each_class_derives_directly_from_its_base_alone(self):
        for name, (base, field) in TABLE.items():
            with self.subTest(name):
                self.assertEqual(getattr(errors, name).__bases__, (base,))
                self.assertEqual(getattr(errors, name).__module__, "decreedays.errors")

    def test_the_field_is_the_value_itself(self):
        for name, field in FIELDS.items():
            for value in STRANGE + (R, 30, -1, [[]], HUGE):
                kind = getattr(errors, name)
                self.assertIs(getattr(kind(value), field), value)
                self.assertIs(getattr(kind(**{field: value}), field), value)
                self.assertEqual(list(vars(kind(value))), [field])

    def test_a_class_with_a_field_takes_just_this_one(self):
        for name in FIELDS:
            with self.subTest(name):
                self.assertRaises(TypeError, getattr(errors, name))
                self.assertRaises(TypeError, getattr(errors, name), 1, 2)

    def test_a_class_without_a_field_takes_nothing(self):
        for name in ("Unlike", "NoCommand", "NoBook"):
            with self.subTest(name):
                error = getattr(errors, name)()
                self.assertIs(type(error), getattr(errors, name))
                self.assertEqual(vars(error), {})

    def test_an_error_can_be_shown_whatever_its_field_is(self):
        for name in FIELDS:
            for value in (None, "", HUGE, [HUGE]):
                error = getattr(errors, name)(value)
                self.assertIsInstance(str(error) + repr(error), str)

    def test_two_errors_share_no_state(self):
        one, other = NoDate([1]), NoDate([2])
        self.assertEqual([one.date, other.date], [[1], [2]])


class RaisedErrorsTest(Case):
    def test_no_rule(self):
        for value in STRANGE + (nested(6), 10 ** 999, [L], list(L), (3, "b", 3)):
            self.check_raises(NoRule, "rule", value, has_date, value, (3, "b", 3))
            self.check_raises(NoRule, "rule", value, number_of, value, (3, "b", 3))
            self.check_raises(NoRule, "rule", value, date_at, value, 21)
            self.check_raises(NoRule, "rule", value, least_rule, value)

    def test_no_rule_comes_before_everything_else(self):
        for value in STRANGE:
            for date in STRANGE + ((1, "zz", 60),):
                self.check_raises(NoRule, "rule", value, has_date, value, date)
                self.check_raises(NoRule, "rule", value, number_of, value, date)

    def test_no_date(self):
        wrong = ((1, "b", 4), (2, "b", 3), (0, "a", 4), (1, "c", 1), (-1, "b", 4), (10 ** 59, "b", 3), 10 ** 999)
        for value in STRANGE + wrong:
            self.check_raises(NoDate, "date", value, number_of, L, value)
            self.assertFalse(reference.date_of(L, value))

    def test_the_same_is_returned_after_an_error(self):
        calls = ((has_date, L, (3, "b", 3)), (number_of, L, (3, "b", 3)), (date_at, L, 21), (least_rule, L + L))
        expected = [True, 21, (3, "b", 3), L]
        for value in STRANGE:
            self.assertRaises(NoRule, has_date, value, value)
            self.assertRaises(NoRule, number_of, value, (3, "b", 3))
            self.assertRaises(NoDate, number_of, L, value)
            self.assertRaises(NoRule, date_at, value, 21)
            self.assertRaises(NoRule, least_rule, value)
            self.assertEqual([function(*args) for function, *args in calls], expected)
