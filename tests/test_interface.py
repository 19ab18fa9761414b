"""The names, modules and parameters of the interface, and its examples."""

import inspect

from decreedays import book, course, decrees, rules, texts
from decreedays.book import Book
from decreedays.course import date_on, events, stack_on, stretches, walk
from decreedays.decrees import is_decree
from decreedays.errors import NoDate, NoDay
from decreedays.rules import date_at, has_date, is_date, is_rule, least_rule, number_of
from decreedays.texts import read_date, read_decree, read_rule, show_date, show_decree, show_rule
from tests.case import Case
from tests.samples import J, L, N, R, S

SIGNATURES = {
    rules: {
        "is_rule": "(thing)", "is_date": "(thing)", "has_date": "(rule, date)",
        "number_of": "(rule, date)", "date_at": "(rule, number)", "least_rule": "(rule)",
    },
    decrees: {"is_decree": "(thing)"},
    course: {
        "events": "(book)", "date_on": "(book, day)", "stack_on": "(book, day)", "stretches": "(book)",
        "walk": "(book, *, since=0)",
    },
    texts: {
        "show_rule": "(rule)", "show_date": "(date)", "show_decree": "(decree)",
        "read_rule": "(text)", "read_date": "(text)", "read_decree": "(text)",
    },
}
BOOK_METHODS = {
    "record": "(self, *decrees)", "withdraw": "(self, *decrees)", "merged": "(self, *others)", "copy": "(self)",
}
BOOK_PROPERTIES = ("first_rule", "first_date", "recorded", "withdrawn", "standing")


class InterfaceTest(Case):
    def test_functions_are_defined_where_they_are_listed(self):
        for module, functions in SIGNATURES.items():
            for name in functions:
                with self.subTest(name):
                    self.assertTrue(inspect.isfunction(getattr(module, name)))
                    self.assertEqual(getattr(module, name).__module__, module.__name__)

    def test_parameters_are_those_shown(self):
        for module, functions in SIGNATURES.items():
            for name, parameters in functions.items():
                with self.subTest(name):
                    self.assertEqual(str(inspect.signature(getattr(module, name))), parameters)

    def test_the_class_of_books(self):
        self.assertEqual([Book.__module__, Book.LIMIT], [book.__name__, 30])
        self.assertEqual(str(inspect.signature(Book)), "(rule, start, *recorded, withdrawn=())")
        for name, parameters in BOOK_METHODS.items():
            with self.subTest(name):
                self.assertTrue(inspect.isfunction(vars(Book)[name]))
                self.assertEqual(str(inspect.signature(vars(Book)[name])), parameters)
        for name in BOOK_PROPERTIES:
            with self.subTest(name):
                self.assertIsInstance(vars(Book)[name], property)
        self.assertIsInstance(vars(Book)["read"], classmethod)
        self.assertEqual(str(inspect.signature(Book.read)), "(text)")
        for name in ("__eq__", "__len__", "__repr__", "__str__"):
            self.assertTrue(name in vars(Book))

    def test_arguments_by_the_parameter_names(self):
        date = (3, "b", 3)
        self.assertIs(is_rule(thing=L), True)
        self.assertIs(is_date(thing=date), True)
        self.assertIs(is_decree(thing=J), True)
        self.assertIs(has_date(date=date, rule=L), True)
        self.assertIs(has_date(L, date=date), True)
        self.assertEqual(number_of(date=date, rule=L), 21)
        self.assertEqual(date_at(number=21, rule=L), date)
        self.assertEqual(least_rule(rule=L + L), L)
        one = Book(start=(1, "a", 1), rule=R, withdrawn=[S])
        self.assertTrue(Book.read(text=str(one)) == one)
        self.assertEqual([events(book=one), stretches(book=one)], [[], [(0, None)]])
        self.assertEqual([date_on(day=5, book=one), date_on(one, day=5)], [(2, "a", 1)] * 2)
        self.assertEqual([stack_on(day=5, book=one), stack_on(one, day=5)], [[(R, (2, "a", 1))]] * 2)
        self.assertEqual(next(walk(since=5, book=one)), (5, (2, "a", 1)))
        self.assertEqual([show_rule(rule=R), show_date(date=date), show_decree(decree=S)],
                         ["a:3 b:2", "3 b 3", "restore 2 3 b 1"])
        self.assertEqual([read_rule(text="a:3 b:2"), read_date(text="3 b 3"), read_decree(text="restore 2 3 b 1")],
                         [R, date, S])

    def test_examples_of_rules_and_dates(self):
        self.check_answer(is_rule, [R], True)
        self.check_answer(is_date, [(1, "a", 0)], False)
        self.check_answer(has_date, [L, (1, "b", 3)], True)
        self.check_answer(has_date, [L, (2, "b", 3)], False)
        self.check_same(number_of, [L, (3, "b", 3)], 21)
        date = (2, "b", 3)
        self.check_raises(NoDate, "date", date, number_of, L, date)
        self.check_same(date_at, [L, 21], (3, "b", 3))
        self.check_same(date_at, [L, -1], (-1, "b", 3))
        self.check_same(least_rule, [R + R], R)

    def test_examples_of_decrees(self):
        self.check_answer(is_decree, [J], True)
        self.check_answer(is_decree, [("rule", 0, (1, "b", 2), R, (1, "b", 3))], False)

    def test_examples_of_books(self):
        self.assertEqual(repr(Book(R, (1, "a", 1), J, S, J, withdrawn=[S])), "Book(1 of 2)")
        self.assertEqual(str(Book(R, (1, "a", 1), J)), "1 a 1 a:3 b:2; record jump 0 1 b 2 3 a 2")
        plain, full = Book(R, (1, "a", 1)), Book(R, (1, "a", 1), J, S, N)
        self.assertEqual(plain.first_date, (1, "a", 1))
        self.assertEqual(full.standing, [J, N, S])
        self.check_raises(NoDay, "day", -1, date_on, full, -1)

    def test_examples_of_texts(self):
        self.check_same(show_rule, [L], "a:3 b:2 / a:3 b:3")
        self.check_same(show_decree, [J], "jump 0 1 b 2 3 a 2")
        self.check_same(read_decree, ["restore 2 3 b 1"], S)
        self.check_place(7, read_decree, "rename 0 1 a 1 b b")
        self.check_place(2, read_rule, "a:3 / / b:2")
        self.check_place(2, read_rule, "a:3 /")
        self.check_place(2, read_date, "1 a")
        self.check_place(3, read_date, "1 a 1 x")
