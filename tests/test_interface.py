"""The names, modules and parameters of the interface, and its examples."""

import inspect

from decreedays import decrees, rules
from decreedays.decrees import is_decree
from decreedays.errors import NoDate
from decreedays.rules import date_at, has_date, is_date, is_rule, least_rule, number_of
from tests.case import Case
from tests.samples import J, L, R

PARAMETERS = {
    rules: {
        "is_rule": ["thing"], "is_date": ["thing"], "has_date": ["rule", "date"],
        "number_of": ["rule", "date"], "date_at": ["rule", "number"], "least_rule": ["rule"],
    },
    decrees: {"is_decree": ["thing"]},
}


class InterfaceTest(Case):
    def test_functions_are_defined_where_they_are_listed(self):
        for module, functions in PARAMETERS.items():
            for name in functions:
                with self.subTest(name):
                    self.assertTrue(inspect.isfunction(getattr(module, name)))
                    self.assertEqual(getattr(module, name).__module__, module.__name__)

    def test_parameters_have_the_names_shown(self):
        for module, functions in PARAMETERS.items():
            for name, parameters in functions.items():
                with self.subTest(name):
                    shown = inspect.signature(getattr(module, name)).parameters.values()
                    self.assertEqual([one.name for one in shown], parameters)
                    self.assertEqual({one.kind for one in shown}, {inspect.Parameter.POSITIONAL_OR_KEYWORD})
                    self.assertEqual({one.default for one in shown}, {inspect.Parameter.empty})

    def test_arguments_by_the_parameter_names(self):
        date = (3, "b", 3)
        self.assertIs(is_rule(thing=L), True)
        self.assertIs(is_date(thing=date), True)
        self.assertIs(is_decree(thing=J), True)
        self.assertIs(has_date(date=date, rule=L), True)
        self.assertIs(has_date(L, date=date), True)
        self.assertEqual(number_of(date=date, rule=L), 21)
        self.assertEqual(date_at(number=21, rule=L), date)
        self.assertEqual(least_rule(rule=L + L), L)

    def test_examples_of_rules_and_dates(self):
        self.check_answer(is_rule, [R], True)
        self.check_answer(is_date, [(1, "a", 0)], False)
        self.check_answer(has_date, [L, (1, "b", 3)], True)
        self.check_answer(has_date, [L, (2, "b", 3)], False)
        self.check_same(number_of, [L, (3, "b", 3)], 21)
        date = (2, "b", 3)
        self.check_raises(NoDate, "date", date, number_of, L, date)
        self.check_same(date_at, [L, 21], (3, "b", 3))
        self.check_same(date_at, [L, -1], (-1, "b", 3))
        self.check_same(least_rule, [R + R], R)

    def test_examples_of_decrees(self):
        self.check_answer(is_decree, [J], True)
        self.check_answer(is_decree, [("rule", 0, (1, "b", 2), R, (1, "b", 3))], False)
