"""The numbers of dates, and the dates of numbers [5, 6]."""

from decreedays.rules import date_at, has_date, number_of
from tests.case import Case
from tests.samples import L, LARGE, LONGEST, ODD, R, RULES, SIXTY_DIGITS, SMALLEST, date_before, next_date, round_days


class DayByDayTest(Case):
    def check_walk(self, rule, number, date):
        """Check that the date has the number and the number the date."""
        self.check_same(number_of, [rule, date], number)
        self.check_same(date_at, [rule, number], date)
        self.check_answer(has_date, [rule, date], True)

    def check_both_ways(self, rule, many):
        """Check so many days behind and before the first day of year 0."""
        start = (0, rule[0][0][0], 1)
        date = start
        for number in range(many):
            self.check_walk(rule, number, date)
            date = next_date(rule, date)
        date = start
        for number in range(0, -many, -1):
            self.check_walk(rule, number, date)
            date = date_before(rule, date)

    def test_short_rules(self):
        for rule in RULES:
            if rule != LONGEST:
                with self.subTest(rule):
                    self.check_both_ways(rule, 3 * round_days(rule) + 2)

    def test_the_longest_rule(self):
        self.check_both_ways(LONGEST, 500)

    def test_rounds_of_the_longest_rule(self):
        # Walked through once in the test's own words; only the seams between years are looked at.
        number, date = 0, (0, "a" * 8, 1)
        for _ in range(2 * round_days(LONGEST) + 1):
            if date[1:] == ("a" * 8, 1):
                self.check_walk(LONGEST, number, date)
            number, date = number + 1, next_date(LONGEST, date)
        self.assertEqual(date[0], 40)


class KnownNumbersTest(Case):
    def test_the_first_day_of_year_0(self):
        for rule in RULES:
            self.check_same(number_of, [rule, (0, rule[0][0][0], 1)], 0)
            self.check_same(date_at, [rule, 0], (0, rule[0][0][0], 1))

    def test_the_last_day_before_year_0(self):
        for rule in RULES:
            date = (-1, *rule[-1][-1])
            self.check_same(number_of, [rule, date], -1)
            self.check_same(date_at, [rule, -1], date)

    def test_one_day_a_year(self):
        for number in (0, 1, -1, 7, *LARGE):
            self.check_same(date_at, [SMALLEST, number], (number, "a", 1))
            self.check_same(number_of, [SMALLEST, (number, "a", 1)], number)

    def test_days_of_years_that_differ(self):
        # Years of 5 and 6 days in turn: the first day of year 2k has the number 11k.
        numbers = {4: (0, "b", 2), 5: (1, "a", 1), 10: (1, "b", 3), 11: (2, "a", 1), -6: (-1, "a", 1), -7: (-2, "b", 2)}
        for number, date in numbers.items():
            self.check_same(number_of, [L, date], number)
            self.check_same(date_at, [L, number], date)

    def test_large_years_of_known_number(self):
        large = 10 ** 59
        for sign in (1, -1):
            self.check_same(number_of, [R, (sign * large, "a", 1)], sign * 5 * large)
            self.check_same(date_at, [R, sign * 5 * large], (sign * large, "a", 1))
            self.check_same(number_of, [L, (2 * sign * large + 1, "b", 3)], 11 * sign * large + 10)
            self.check_same(date_at, [L, 11 * sign * large + 10], (2 * sign * large + 1, "b", 3))


class LargeNumbersTest(Case):
    def test_dates_of_large_numbers_undo(self):
        for rule in RULES:
            for number in LARGE + (10 ** 999, -(10 ** 999)):
                date = date_at(rule, number)
                self.check_answer(has_date, [rule, date], True)
                self.check_same(number_of, [rule, date], number)

    def test_numbers_of_large_years_undo(self):
        for rule in RULES:
            for large in (SIXTY_DIGITS, -SIXTY_DIGITS, 10 ** 999):
                for year in range(large, large + len(rule)):
                    for name, days in rule[year % len(rule)]:
                        for day in (1, days):
                            date = (year, name, day)
                            self.check_same(date_at, [rule, number_of(rule, date)], date)

    def test_the_day_after_a_large_one(self):
        for rule in RULES:
            for large in LARGE:
                date = date_at(rule, large)
                for number in range(large + 1, large + 200):
                    date = next_date(rule, date)
                    self.check_same(date_at, [rule, number], date)
                    self.check_same(number_of, [rule, date], number)

    def test_a_round_adds_its_days(self):
        for rule in RULES:
            year = len(rule) - 1
            name, days = rule[year][-1]
            first = number_of(rule, (year, name, days))
            self.assertEqual(first, round_days(rule) - 1)
            for rounds in LARGE:
                date = (year + rounds * len(rule), name, days)
                self.check_same(number_of, [rule, date], first + rounds * round_days(rule))

    def test_years_of_odd_rounds(self):
        # Year 1 of three has 63 days, and the last one of these is the second day of the month x.
        for rounds in (-5, -1, 0, 3, 10 ** 59, -(10 ** 59)):
            self.check_same(number_of, [ODD, (3 * rounds + 1, "x", 2)], rounds * round_days(ODD) + 63)
