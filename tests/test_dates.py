"""What is a date, and which dates a rule has [4, 5]."""

from decreedays.rules import has_date, is_date
from tests import reference
from tests.case import Case
from tests.samples import L, LARGE, LONGEST, ODD, PIECES, R, RULES, SMALLEST, STRANGE, spoiled


class IsDateTest(Case):
    def test_dates(self):
        for year in (0, 1, -1, 10 ** 60, -(10 ** 60), 10 ** 999, -(10 ** 999)):
            for name in ("a", "z", "abcdefgh"):
                for day in (1, 2, 59, 60):
                    self.check_answer(is_date, [(year, name, day)], True)

    def test_things_of_all_kinds(self):
        for thing in STRANGE + RULES:
            self.check_answer(is_date, [thing], False)

    def test_years(self):
        for year in (True, False, None, "1", "", (1,), [1], "a"):
            self.check_answer(is_date, [(year, "a", 1)], False)

    def test_names(self):
        for name in ("", "abcdefghi", "A", "a1", " a", "`", "{", "\u00e9", 1, None, True, ("a",), ["a"]):
            self.check_answer(is_date, [(1, name, 1)], False)

    def test_days(self):
        for day in (0, 61, -1, 10 ** 60, True, False, None, "1", (1,), [1]):
            self.check_answer(is_date, [(1, "a", day)], False)

    def test_lists_and_other_lengths(self):
        for thing in ([1, "a", 1], (1, "a"), (1, "a", 1, 1), (), ((1, "a", 1),), (1, 1, "a"), ("a", 1, 1)):
            self.check_answer(is_date, [thing], False)

    def test_spoiled_dates(self):
        for date in ((1, "a", 1), (-5, "abcdefgh", 60)):
            for thing in spoiled(date):
                self.check_answer(is_date, [thing], reference.date(thing))


class HasDateTest(Case):
    def test_the_end_of_each_month(self):
        for rule in RULES:
            for year in range(-2 * len(rule), 2 * len(rule) + 1):
                for name, days in rule[year % len(rule)]:
                    for day in (1, days):
                        self.check_answer(has_date, [rule, (year, name, day)], True)
                    for day in (-1, 0, days + 1, 61):
                        self.check_answer(has_date, [rule, (year, name, day)], False)

    def test_years_before_and_behind_year_0(self):
        # The years of L with an odd number have a third day in the month b, also before year 0.
        for year in range(-9, 10):
            self.check_answer(has_date, [L, (year, "b", 3)], year in (-9, -7, -5, -3, -1, 1, 3, 5, 7, 9))
        for year in range(-9, 10):
            self.check_answer(has_date, [ODD, (year, "z", 59)], year in (-7, -4, -1, 2, 5, 8))

    def test_years_of_sixty_digits(self):
        for year in LARGE + (10 ** 999, 10 ** 999 + 1, -(10 ** 999), 1 - 10 ** 999):
            self.check_answer(has_date, [L, (year, "b", 2)], True)
            self.check_answer(has_date, [L, (year, "b", 3)], str(year)[-1] in "13579")
            for name in ("x", "a", "b", "z", "abcdefgh"):
                for day in (1, 2, 7, 8, 31, 59, 60):
                    date = (year, name, day)
                    self.check_answer(has_date, [ODD, date], reference.date_of(ODD, date))

    def test_names_that_the_year_does_not_have(self):
        for year, name in ((0, "a"), (1, "z"), (2, "b"), (2, "x"), (-1, "x"), (-2, "z"), (0, "q"), (0, "xx")):
            self.check_answer(has_date, [ODD, (year, name, 1)], False)
        self.check_answer(has_date, [R, (0, "c", 1)], False)
        self.check_answer(has_date, [SMALLEST, (0, "b", 1)], False)

    def test_each_month_has_its_own_days(self):
        for year in range(20):
            for name, days in LONGEST[year]:
                for day in (1, days, days + 1, 60):
                    self.check_answer(has_date, [LONGEST, (year, name, day)], day <= days)

    def test_values_that_are_no_dates(self):
        for rule in RULES:
            for thing in STRANGE + PIECES:
                self.check_answer(has_date, [rule, thing], reference.date_of(rule, thing))

    def test_true_is_no_number(self):
        self.check_answer(has_date, [R, (1, "a", True)], False)
        self.check_answer(has_date, [R, (True, "a", 1)], False)
        self.check_answer(has_date, [R, [1, "a", 1]], False)

    def test_spoiled_dates(self):
        for date in ((1, "b", 2), (-1, "a", 3)):
            for thing in spoiled(date):
                self.check_answer(has_date, [L, thing], reference.date_of(L, thing))
