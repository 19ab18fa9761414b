"""Runs of days in the same month, months later, and counts of both [2, 15, 16]."""

import itertools
import random
from collections import Counter

from decreedays.book import Book
from decreedays.course import stretches
from decreedays.errors import NoCount, NoDay, NoName
from decreedays.months import count_days, count_runs, later, month_runs, run_of
from tests.case import Case, picture
from tests.samples import J, L, LONGEST, N, ODD, R, S, SIXTY_DIGITS, SMALLEST, STRANGE, round_days
from tests.scenarios import books
from tests.simulation import first_dates
from tests.test_days import BOOK, D, NO_DAYS, PLAIN
from tests.tour import expected_later, first_runs, run_behind, tally

FAR = 10 ** 50
NO_COUNTS = STRANGE + ("1", [1], (1,), D)
NO_NAMES = STRANGE + (0, 1, "abcdefghi", "A", "a1", "a b", D, ["a"], ("a",))
BOOKS = (PLAIN, BOOK, Book(L, (-1, "b", 3), J, N), Book(ODD, (0, "x", 1)), Book(SMALLEST, (-7, "a", 1)))


class ExamplesTest(Case):
    def test_examples(self):
        self.assertEqual(picture([run_of(BOOK, day) for day in [3, 4, 6]]), picture([(3, 3), (4, 5), (6, 7)]))
        self.assertEqual(picture([later(BOOK, 3), later(PLAIN, 3), later(PLAIN, 2, months=3)]), picture([4, 5, 9]))
        self.check_same(count_runs, [BOOK, 2, 6], 4)
        self.check_same(count_days, [BOOK, "a", 0, 6], 6)

    def test_a_run_ends_with_its_stretch(self):
        # Day 4 would have the date that it has anyway, but another stretch begins with it.
        book = Book(R, D, ("jump", 0, (1, "b", 2), (1, "b", 2)))
        self.assertEqual([run_of(book, day) for day in range(6)], [(0, 2)] * 3 + [(3, 3), (4, 4), (5, 7)])
        # A void event does not begin a stretch.
        book = Book(R, D, ("restore", 0, (1, "b", 2)))
        self.assertEqual([run_of(book, day) for day in (3, 4)], [(3, 4)] * 2)
        self.assertEqual(list(itertools.islice(month_runs(book), 3)), [(0, 2, 1, "a"), (3, 4, 1, "b"), (5, 7, 2, "a")])

    def test_a_run_begins_in_the_middle_of_a_month(self):
        book = Book(ODD, (1, "b", 58))
        self.assertEqual([run_of(book, 0), run_of(book, 3)], [(0, 2), (3, 3)])
        self.assertEqual(next(month_runs(book)), (0, 2, 1, "b"))
        self.assertEqual(later(book, 0, months=0), 0)

    def test_a_month_of_sixty_days(self):
        book = Book(ODD, (1, "b", 1))
        self.assertEqual([run_of(book, day) for day in (0, 30, 59, 60)], [(0, 59)] * 3 + [(60, 60)])

    def test_later_in_shorter_months_and_in_runs_that_begin_late(self):
        book = Book(((("a", 5), ("b", 2), ("c", 4)),), (0, "a", 1))
        # In b there are only two days.
        self.assertEqual([later(book, day) for day in range(5)], [5, 6, 6, 6, 6])
        self.assertEqual([later(book, day, months=2) for day in range(5)], [7, 8, 9, 10, 10])
        # The run that begins with 3 a 4 has no day of the month up to 3: its first day is taken.
        jump = ("jump", 0, (0, "b", 2), (3, "a", 4))
        book = Book(book.first_rule, (0, "a", 1), jump)
        self.assertEqual([run_of(book, 6), run_of(book, 5)], [(6, 7), (5, 5)])
        self.assertEqual([later(book, day, months=2) for day in range(5)], [6, 6, 6, 6, 7])

    def test_later_from_the_same_month_into_the_same_month(self):
        book = Book(R, D, ("jump", 0, (1, "a", 2), (1, "a", 2)))
        self.assertEqual([later(book, 0), later(book, 1), later(book, 0, months=2)], [1, 4, 3])


class NearTest(Case):
    def check_runs(self, book, many):
        """Check the runs of the first days."""
        expected = first_runs(book, first_dates(book, many))
        found = list(itertools.islice(month_runs(book), len(expected)))
        self.assertEqual(picture(found), picture(expected))
        for place, run in enumerate(expected):
            first, last, year, month = run
            self.assertTrue(last - first < 60)
            for day in range(first, last + 1):
                self.check_same(run_of, [book, day], (first, last))
                behind = list(itertools.islice(month_runs(book, since=day), len(expected) - place))
                self.assertEqual(picture(behind), picture(expected[place:]))
        return expected

    def check_later(self, book, dates, runs, most):
        """Check the days up to so many months later."""
        for place, run in enumerate(runs[:-most]):
            for day in range(run[0], run[1] + 1):
                for months in range(most + 1):
                    first, last, *rest = runs[place + months]
                    fitting = [other for other in range(first, last + 1) if dates[other][2] <= dates[day][2]]
                    expected = fitting[-1] if fitting else first
                    self.assertEqual(picture(self.call(later, book, day, months=months)), picture(expected))
                    self.assertEqual(expected, expected_later(book, day, months))
                self.assertEqual(later(book, day), later(book, day, months=1))

    def check_counts(self, book, dates, runs):
        """Check the counts between all pairs of days that the runs have."""
        days = runs[-1][1] + 1
        for first, last in itertools.combinations_with_replacement(range(days), 2):
            many = sum(run[0] <= last and first <= run[1] for run in runs)
            self.check_same(count_runs, [book, first, last], many)
            names = Counter(date[1] for date in dates[first:last + 1])
            for month in "abcdz":
                self.check_same(count_days, [book, month, first, last], names[month])

    def test_runs(self):
        for book in list(BOOKS[:3]) + books("runs", 300):
            self.check_runs(book, 45)

    def test_later(self):
        for book in list(BOOKS[:3]) + books("later", 25):
            dates = first_dates(book, 60)
            self.check_later(book, dates, first_runs(book, dates), 12)

    def test_counts(self):
        for book in list(BOOKS[:3]) + books("counts", 60):
            dates = first_dates(book, 32)
            self.check_counts(book, dates, first_runs(book, dates))

    def test_long_rules(self):
        for rule in (ODD, LONGEST, SMALLEST):
            book = Book(rule, (0, rule[0][0][0], 1))
            runs = list(itertools.islice(month_runs(book), 700))
            self.assertEqual([run[0] for run in runs], [0] + [run[1] + 1 for run in runs[:-1]])
            months = [(year, name, days) for year in range(700) for name, days in rule[year % len(rule)]]
            self.assertEqual([(year, name, last - first + 1) for first, last, year, name in runs], months[:700])
            for place in (0, 1, 350):
                first, last, *rest = runs[place]
                for months in (0, 1, 2, 13, 260, 300):
                    begin, end, *rest = runs[place + months]
                    self.assertEqual(later(book, last, months=months), min(end, begin + last - first))
                    self.assertEqual(later(book, first, months=months), begin)
                    self.assertEqual(count_runs(book, last, end), months + 1)


class FarTest(Case):
    def spans(self, rand, book):
        """Return pairs of days, near and far, around the stretches of a book."""
        firsts = [first for first, last in stretches(book)]
        days = [max(0, first + rand.randint(-9, 9)) for first in firsts for _ in range(2)]
        days += [rand.randrange(10 ** 20), FAR * 7 + rand.randint(0, 99), SIXTY_DIGITS]
        return [sorted(rand.choices(days, k=2)) for _ in range(8)]

    def test_runs_and_counts(self):
        rand, wide = random.Random(16), 0
        for years in ((0, 1), (0, FAR, -FAR), (10 ** 20, 5 - 10 ** 20, 1)):
            for book in books(f"runs far {years}", 60, years=years):
                for first, last in self.spans(rand, book):
                    runs, names = tally(book, first, last)
                    self.check_same(count_runs, [book, first, last], runs)
                    for month in "abcdz":
                        self.check_same(count_days, [book, month, first, last], names[month])
                    days = run_behind(book, first, 0)
                    self.check_same(run_of, [book, first], (days[0][0], days[-1][0]))
                    run = next(month_runs(book, since=first))
                    self.assertEqual(picture(run), picture((days[0][0], days[-1][0], *days[0][1][:2])))
                    wide += runs > 10 ** 15
        self.assertTrue(wide > 300, wide)

    def test_parts_of_a_span_add_up(self):
        rand = random.Random(17)
        for book in books("parts far", 100, years=(0, FAR, -FAR)):
            for first, last in self.spans(rand, book):
                middle = rand.randint(first, last)
                both = int(run_of(book, middle) == run_of(book, middle + 1))
                if middle < last:
                    parts = count_runs(book, first, middle) + count_runs(book, middle + 1, last) - both
                    self.assertEqual(count_runs(book, first, last), parts)
                    for month in "abcd":
                        parts = count_days(book, month, first, middle) + count_days(book, month, middle + 1, last)
                        self.assertEqual(count_days(book, month, first, last), parts)
                self.assertEqual(sum(count_days(book, month, first, last) for month in "abcd"), last - first + 1)

    def test_later(self):
        rand, wide = random.Random(18), 0
        for years in ((0, 1), (0, FAR, -FAR), (10 ** 20, 5 - 10 ** 20, 1)):
            for book in books(f"later far {years}", 60, years=years):
                for first, last in self.spans(rand, book):
                    runs, names = tally(book, first, last)
                    for months in (0, 1, 2, 12, runs - 1, runs, runs + 1, runs * 3, 10 ** 40 + rand.randint(0, 20)):
                        expected = expected_later(book, first, months)
                        self.assertEqual(picture(self.call(later, book, first, months=months)), picture(expected))
                        wide += expected - first > 10 ** 15
        self.assertTrue(wide > 300, wide)

    def test_as_many_months_as_many_rounds_have(self):
        for rule, rounds in itertools.product((R, L, ODD, LONGEST, SMALLEST), (1, 2, 10 ** 40, 10 ** 900)):
            months = sum(len(year) for year in rule)
            book = Book(rule, (0, rule[0][0][0], 1))
            for day in (0, 1, round_days(rule) - 1, 10 ** 30):
                behind = day + rounds * round_days(rule)
                self.assertTrue(later(book, day, months=rounds * months) == behind)
                self.assertTrue(count_runs(book, day, behind) == rounds * months + 1)
                name = rule[0][0][0]
                days = rounds * sum(days for year in rule for other, days in year if other == name)
                self.assertTrue(count_days(book, name, day + 1, behind) == days)


class WrongTest(Case):
    def take(self, book, since):
        """Take the first run from a day on."""
        return next(month_runs(book, since=since))

    def test_no_day(self):
        for book in BOOKS[:2]:
            for thing in NO_DAYS:
                self.check_raises(NoDay, "day", thing, run_of, book, thing)
                self.check_raises(NoDay, "day", thing, later, book, thing)
                self.check_raises(NoDay, "day", thing, later, book, thing, months=thing)
                self.check_raises(NoDay, "day", thing, self.take, book, thing)
                for other in (0, thing, -1):
                    self.check_raises(NoDay, "day", thing, count_runs, book, thing, other)
                    self.check_raises(NoDay, "day", thing, count_days, book, "a", thing, other)
                self.check_raises(NoDay, "day", thing, count_runs, book, 0, thing)
                self.check_raises(NoDay, "day", thing, count_days, book, "a", 0, thing)

    def test_a_last_day_below_the_first_one(self):
        for first, last in ((1, 0), (10 ** 59, 10 ** 58), (10 ** 59 + 1, 10 ** 59)):
            self.check_raises(NoDay, "day", last, count_runs, BOOK, first, last)
            self.check_raises(NoDay, "day", last, count_days, BOOK, "zz", first, last)
            self.assertEqual(count_runs(BOOK, first, first), 1)

    def test_no_count(self):
        for thing in NO_COUNTS:
            self.check_raises(NoCount, "count", thing, later, BOOK, 3, months=thing)
        self.assertEqual(later(BOOK, 3, months=0), 3)

    def test_no_name(self):
        for thing in NO_NAMES:
            for first, last in ((0, 6), (-1, 6), (6, 0), (thing, thing)):
                self.check_raises(NoName, "name", thing, count_days, BOOK, thing, first, last)

    def test_a_generator_raises_with_its_first_value_only(self):
        runs = month_runs(BOOK, since=-1)
        self.check_raises(NoDay, "day", -1, next, runs)

    def test_keywords(self):
        self.assertRaises(TypeError, later, BOOK, 3, 1)
        self.assertRaises(TypeError, month_runs, BOOK, 3)
        self.assertEqual([later(months=1, day=3, book=BOOK), run_of(day=3, book=BOOK)], [4, (3, 3)])
        self.assertEqual(count_days(last=6, first=0, month="a", book=BOOK), count_days(BOOK, "a", 0, 6))
        self.assertEqual([count_runs(last=6, first=2, book=BOOK), next(month_runs(since=4, book=BOOK))],
                         [4, (4, 5, 3, "a")])

    def test_two_generators_at_once(self):
        one, other = month_runs(BOOK), month_runs(PLAIN, since=3)
        rows = [(next(one), next(other)) for _ in range(5)]
        self.assertEqual([row[0] for row in rows], list(itertools.islice(month_runs(BOOK), 5)))
        self.assertEqual([row[1] for row in rows], list(itertools.islice(month_runs(PLAIN), 1, 6)))
