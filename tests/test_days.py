"""The days of a date, and the next one [2, 13]."""

from collections import Counter

from decreedays.book import Book
from decreedays.days import days_of, next_day
from decreedays.errors import NoDate, NoDay
from tests.case import Case, picture
from tests.samples import J, LONGEST, N, R, S, SIXTY_DIGITS, SMALLEST, STRANGE, round_days
from tests.scenarios import books
from tests.simulation import expected_date, expected_days, first_dates

D = (1, "a", 1)
PLAIN = Book(R, D)
BOOK = Book(R, D, J, S, N)
FAR = 10 ** 50
NO_DAYS = STRANGE + (-1, -SIXTY_DIGITS, True, False, None, "0", [0], (0,), D)
NO_DATES = STRANGE + (J, R, (1, "a", 0), (1, "a", 61), [1, "a", 1], (True, "a", 1), (1, "a", True), 0)


def dates_of(book):
    """Return dates that the decrees of a book name, and others."""
    found = [decree[2] for decree in book.recorded] + [decree[-1] for decree in book.recorded if decree[0] == "jump"]
    return found + [book.first_date, (1, "a", 1), (0, "b", 2), (3, "c", 1), (2, "a", 3), (-1, "d", 1), (9, "z", 60)]


class DaysTest(Case):
    def check_days(self, book, date):
        """Check all days of a date, and the next ones from days before, between and behind them. Return them."""
        expected = expected_days(book, date)
        self.check_same(days_of, [book, date], expected)
        sinces = {0, 10 ** 20, SIXTY_DIGITS, *(day + more for day in expected for more in (-1, 0, 1))}
        for since in sinces:
            if since >= 0:
                following = [day for day in expected if day >= since]
                found = self.call(next_day, book, date, since=since)
                self.assertEqual(picture(found), picture(following[0] if following else None))
        self.check_same(next_day, [book, date], expected[0] if expected else None)
        return expected

    def test_examples(self):
        self.check_same(days_of, [BOOK, (3, "a", 2)], [4, 11])
        self.check_same(days_of, [BOOK, (1, "z", 60)], [])
        self.assertEqual(next_day(BOOK, (3, "a", 2), since=5), 11)
        self.check_same(next_day, [BOOK, (2, "a", 1)], None)

    def test_dates_that_come_once_often_and_never(self):
        self.check_same(days_of, [PLAIN, (1, "b", 2)], [4])
        # Once more after each jump back.
        back = [("jump", 5 * made, (1, "b", 2), D) for made in range(6)]
        self.check_same(days_of, [Book(R, D, *back), (1, "a", 2)], [1, 5, 9, 13, 17, 21])
        # The last of them is made a day too late.
        self.check_same(days_of, [Book(R, D, *back), (1, "b", 2)], [24])
        # Before day 0 only, and replaced on the day itself.
        self.check_same(days_of, [PLAIN, (0, "b", 2)], [])
        self.check_same(days_of, [Book(R, D, ("jump", 0, D, (4, "a", 1))), D], [])
        # Of another rule, and of no rule.
        self.check_same(days_of, [PLAIN, (1, "b", 3)], [])
        self.check_same(days_of, [PLAIN, (1, "z", 1)], [])

    def test_a_date_comes_again_after_a_restore(self):
        book = Book(R, D, ("jump", 0, (1, "a", 2), (3, "a", 1)), ("restore", 0, (5, "a", 1)))
        # The calendar below has gone on in the meantime.
        self.check_same(days_of, [book, (3, "a", 1)], [1])
        self.check_same(days_of, [book, (3, "a", 2)], [2, 11])

    def test_near(self):
        many = Counter()
        for book in books("days near", 250):
            dates = first_dates(book, 50)
            for date in dict.fromkeys(dates + dates_of(book)):
                found = self.check_days(book, date)
                seen = [day for day in range(50) if dates[day] == date]
                self.assertEqual([day for day in found if day < 50], seen)
                many[len(found)] += 1
        self.assertTrue(many[0] > 500 and many[1] > 2000 and many[2] > 100 and many[3] > 5, many)

    def test_far(self):
        late = 0
        for years in ((0, FAR, -FAR), (10 ** 20, 5 - 10 ** 20, 1)):
            for book in books(f"days far {years}", 60, years=years):
                for date in dates_of(book) + [(year + more, "b", 1) for year in years for more in (0, 3)]:
                    found = self.check_days(book, date)
                    late += len([day for day in found if day > 1000])
                    for day in found:
                        self.assertEqual(expected_date(book, day), date)
        self.assertTrue(late > 300, late)

    def test_very_far(self):
        for many in (10 ** 58, 10 ** 999):
            self.check_same(days_of, [PLAIN, (1 + many, "b", 2)], [5 * many + 4])
            self.check_same(days_of, [BOOK, (1 + many, "b", 2)], [5 * many + 4])
            self.check_same(days_of, [Book(SMALLEST, D), (1 + many, "a", 1)], [many])
            longest = Book(LONGEST, (0, "a" * 8, 1))
            self.check_same(days_of, [longest, (20 * many, "a" * 8, 2)], [round_days(LONGEST) * many + 1])

    def test_new_lists(self):
        for date in ((3, "a", 2), (1, "z", 60)):
            expected = picture(days_of(BOOK, date))
            found = days_of(BOOK, date)
            found.append(0)
            found.sort(reverse=True)
            self.assertEqual(picture(days_of(BOOK, date)), expected)

    def test_since_is_0_and_a_keyword(self):
        self.assertRaises(TypeError, next_day, BOOK, (3, "a", 2), 5)
        self.assertEqual(next_day(since=0, date=(3, "a", 2), book=BOOK), next_day(BOOK, (3, "a", 2)))


class WrongTest(Case):
    def test_no_date(self):
        for book in (PLAIN, BOOK):
            for thing in NO_DATES:
                self.check_raises(NoDate, "date", thing, days_of, book, thing)
                self.check_raises(NoDate, "date", thing, next_day, book, thing)
                self.check_raises(NoDate, "date", thing, next_day, book, thing, since=thing)
                self.check_raises(NoDate, "date", thing, next_day, book, thing, since=-1)

    def test_no_day(self):
        for book in (PLAIN, BOOK):
            for thing in NO_DAYS:
                for date in (D, (9, "z", 60)):
                    self.check_raises(NoDay, "day", thing, next_day, book, date, since=thing)
