"""The names, modules and parameters of the interface, and its examples."""

import inspect

from decreedays import (
    book, certificates, checker, compare, course, days, decrees, desk, months, registry, rules, texts,
)
from decreedays.book import Book
from decreedays.course import date_on, events, stack_on, stretches, walk
from decreedays.days import days_of, fate, needed, next_day
from decreedays.decrees import is_decree
from decreedays.errors import NoDate, NoDay
from decreedays.months import count_days, count_runs, later, month_runs, run_of
from decreedays.rules import date_at, has_date, is_date, is_rule, least_rule, number_of
from decreedays.texts import read_date, read_decree, read_rule, show_date, show_decree, show_rule
from tests.case import Case
from tests.samples import J, L, N, R, S

D = (1, "a", 1)

SIGNATURES = {
    rules: {
        "is_rule": "(thing)", "is_date": "(thing)", "has_date": "(rule, date)",
        "number_of": "(rule, date)", "date_at": "(rule, number)", "least_rule": "(rule)",
    },
    decrees: {"is_decree": "(thing)"},
    course: {
        "events": "(book)", "date_on": "(book, day)", "stack_on": "(book, day)", "stretches": "(book)",
        "walk": "(book, *, since=0)",
    },
    days: {
        "days_of": "(book, date)", "next_day": "(book, date, *, since=0)", "fate": "(book, decree)",
        "needed": "(book, day)",
    },
    months: {
        "run_of": "(book, day)", "later": "(book, day, *, months=1)", "month_runs": "(book, *, since=0)",
        "count_runs": "(book, first, last)", "count_days": "(book, month, first, last)",
    },
    compare: {
        "parted": "(*books)", "agree_from": "(*books)", "differing": "(one, other, *, last)",
        "reach": "(book, decree)",
    },
    certificates: {"date_certificate": "(book, day)", "lost_certificate": "(book, decree)"},
    checker: {"holds": "(book, thing)"},
    texts: {
        "show_rule": "(rule)", "show_date": "(date)", "show_decree": "(decree)",
        "read_rule": "(text)", "read_date": "(text)", "read_decree": "(text)",
    },
}
REGISTRY_METHODS = {
    "set_today": "(self, day)", "date_today": "(self)", "add": "(self, name, contract)",
    "add_all": "(self, **contracts)", "cancel": "(self, name)", "day_of": "(self, name)",
    "contract_of": "(self, name)", "names": "(self)", "record": "(self, *decrees)", "withdraw": "(self, *decrees)",
    "merge": "(self, *books)", "book": "(self)", "__len__": "(self)", "__init__": "(self, rule, start)",
}
# The methods, the class methods and the properties of each class.
CLASSES = {
    (book, "Book"): (
        {
            "record": "(self, *decrees)", "withdraw": "(self, *decrees)", "merged": "(self, *others)",
            "copy": "(self)", "__eq__": "(self, other)", "__len__": "(self)", "__repr__": "(self)",
            "__str__": "(self)", "__init__": "(self, rule, start, *recorded, withdrawn=())",
        },
        {"read": "(text)"},
        ("first_rule", "first_date", "recorded", "withdrawn", "standing"),
    ),
    (registry, "Registry"): (REGISTRY_METHODS, {"of": "(book)"}, ("today", "due")),
    (registry, "Journal"): ({"__init__": "(self, rule, start)", "total": "(self)"}, {"of": "(book)"}, ("entries",)),
    (desk, "Desk"): ({"__init__": "(self)", "say": "(self, command)"}, {}, ()),
}


class InterfaceTest(Case):
    def test_functions_are_defined_where_they_are_listed(self):
        for module, functions in SIGNATURES.items():
            for name in functions:
                with self.subTest(name):
                    self.assertTrue(inspect.isfunction(getattr(module, name)))
                    self.assertEqual(getattr(module, name).__module__, module.__name__)

    def test_parameters_are_those_shown(self):
        for module, functions in SIGNATURES.items():
            for name, parameters in functions.items():
                with self.subTest(name):
                    self.assertEqual(str(inspect.signature(getattr(module, name))), parameters)

    def test_classes(self):
        for (module, name), (methods, class_methods, properties) in CLASSES.items():
            found = vars(module)[name]
            self.assertEqual(found.__module__, module.__name__)
            for method, parameters in methods.items():
                with self.subTest(f"{name}.{method}"):
                    self.assertTrue(inspect.isfunction(vars(found)[method]))
                    self.assertEqual(str(inspect.signature(vars(found)[method])), parameters)
            for method, parameters in class_methods.items():
                with self.subTest(f"{name}.{method}"):
                    self.assertIsInstance(vars(found)[method], classmethod)
                    self.assertEqual(str(inspect.signature(getattr(found, method))), parameters)
            for method in properties:
                with self.subTest(f"{name}.{method}"):
                    self.assertIsInstance(vars(found)[method], property)

    def test_limits_and_bases(self):
        self.assertEqual([Book.LIMIT, registry.Registry.LIMIT, registry.Journal.LIMIT], [30, 40, 40])
        self.assertEqual(registry.Journal.__bases__, (registry.Registry,))

    def test_each_method_of_a_registry_is_one_of_a_journal(self):
        for name in (*REGISTRY_METHODS, "of", "today", "due", "LIMIT"):
            self.assertTrue(hasattr(registry.Journal, name))

    def test_arguments_by_the_parameter_names(self):
        date = (3, "b", 3)
        self.assertIs(is_rule(thing=L), True)
        self.assertIs(is_date(thing=date), True)
        self.assertIs(is_decree(thing=J), True)
        self.assertIs(has_date(date=date, rule=L), True)
        self.assertIs(has_date(L, date=date), True)
        self.assertEqual(number_of(date=date, rule=L), 21)
        self.assertEqual(date_at(number=21, rule=L), date)
        self.assertEqual(least_rule(rule=L + L), L)
        one = Book(start=(1, "a", 1), rule=R, withdrawn=[S])
        self.assertTrue(Book.read(text=str(one)) == one)
        self.assertEqual([events(book=one), stretches(book=one)], [[], [(0, None)]])
        self.assertEqual([date_on(day=5, book=one), date_on(one, day=5)], [(2, "a", 1)] * 2)
        self.assertEqual([stack_on(day=5, book=one), stack_on(one, day=5)], [[(R, (2, "a", 1))]] * 2)
        self.assertEqual(next(walk(since=5, book=one)), (5, (2, "a", 1)))
        self.assertEqual([days_of(date=D, book=one), next_day(since=0, date=D, book=one)], [[0], 0])
        self.assertEqual([fate(decree=J, book=Book(R, D, J)), needed(day=5, book=one)], [("effective", 4), []])
        self.assertEqual([run_of(day=5, book=one), later(months=1, day=5, book=one)], [(5, 7), 8])
        self.assertEqual(next(month_runs(since=5, book=one)), (5, 7, 2, "a"))
        self.assertEqual([count_runs(last=5, first=0, book=one), count_days(last=5, first=0, month="a", book=one)],
                         [3, 4])
        self.assertEqual([show_rule(rule=R), show_date(date=date), show_decree(decree=S)],
                         ["a:3 b:2", "3 b 3", "restore 2 3 b 1"])
        self.assertEqual([read_rule(text="a:3 b:2"), read_date(text="3 b 3"), read_decree(text="restore 2 3 b 1")],
                         [R, date, S])

    def test_examples_of_rules_and_dates(self):
        self.check_answer(is_rule, [R], True)
        self.check_answer(is_date, [(1, "a", 0)], False)
        self.check_answer(has_date, [L, (1, "b", 3)], True)
        self.check_answer(has_date, [L, (2, "b", 3)], False)
        self.check_same(number_of, [L, (3, "b", 3)], 21)
        date = (2, "b", 3)
        self.check_raises(NoDate, "date", date, number_of, L, date)
        self.check_same(date_at, [L, 21], (3, "b", 3))
        self.check_same(date_at, [L, -1], (-1, "b", 3))
        self.check_same(least_rule, [R + R], R)

    def test_examples_of_decrees(self):
        self.check_answer(is_decree, [J], True)
        self.check_answer(is_decree, [("rule", 0, (1, "b", 2), R, (1, "b", 3))], False)

    def test_examples_of_books(self):
        self.assertEqual(repr(Book(R, (1, "a", 1), J, S, J, withdrawn=[S])), "Book(1 of 2)")
        self.assertEqual(str(Book(R, (1, "a", 1), J)), "1 a 1 a:3 b:2; record jump 0 1 b 2 3 a 2")
        plain, full = Book(R, (1, "a", 1)), Book(R, (1, "a", 1), J, S, N)
        self.assertEqual(plain.first_date, (1, "a", 1))
        self.assertEqual(full.standing, [J, N, S])
        self.check_raises(NoDay, "day", -1, date_on, full, -1)

    def test_examples_of_texts(self):
        self.check_same(show_rule, [L], "a:3 b:2 / a:3 b:3")
        self.check_same(show_decree, [J], "jump 0 1 b 2 3 a 2")
        self.check_same(read_decree, ["restore 2 3 b 1"], S)
        self.check_place(7, read_decree, "rename 0 1 a 1 b b")
        self.check_place(2, read_rule, "a:3 / / b:2")
        self.check_place(2, read_rule, "a:3 /")
        self.check_place(2, read_date, "1 a")
        self.check_place(3, read_date, "1 a 1 x")
