"""What is promised over the whole program [1, 2, 3, 9, 13]."""

import itertools
import random

from decreedays.book import Book
from decreedays.certificates import date_certificate, lost_certificate
from decreedays.checker import holds
from decreedays.compare import agree_from, differing, parted, reach
from decreedays.course import date_on, events, stack_on, stretches, walk
from decreedays.days import days_of, fate, needed, next_day
from decreedays.months import count_days, count_runs, later, month_runs, run_of
from tests.case import Case, picture
from tests.samples import J
from tests.scenarios import books, some_decree
from tests.simulation import without
from tests.test_compare import there_and_back
from tests.test_compare_far import back
from tests.test_days import PLAIN, dates_of
from tests.test_far import WHOLE, shifted

FAR = 10 ** 50
DAYS = (0, 1, 4, 9, 23, 10 ** 20, FAR * 7)


def moved(decree, days):
    """Return the decree made so many days later."""
    return (decree[0], decree[1] + days, *decree[2:])


def begun_before(book, days):
    """Return the book begun so many days earlier, with all decrees made so many days later."""
    standing = [moved(decree, days) for decree in book.standing]
    return Book(book.first_rule, back(book.first_rule, book.first_date, days), *standing)


def days_told(book, dates):
    """Return what is told about dates, days and months, but not about decrees."""
    found = []
    for day in DAYS:
        first, last, year, month = next(month_runs(book, since=day))
        found += [date_on(book, day), next(walk(book, since=day)), run_of(book, day), first, last, (year, month, 1)]
        found += [later(book, day, months=months) for months in (0, 1, 5, 10 ** 30)] + [later(book, day)]
        found += [count_runs(book, 0, day)] + [count_days(book, name, 0, day) for name in "abcd"]
    for date in dates:
        found += [days_of(book, date), next_day(book, date), next_day(book, date, since=5)]
    return found + [stretches(book)] + [stack_on(book, day)[-1] for day in DAYS]


def told(book, other):
    """Return all that is told about a book, and about it and another one."""
    found = days_told(book, dates_of(book)) + [events(book), parted(book, other), agree_from(book, other)]
    found += [differing(book, other, last=last) for last in (7, 10 ** 30)]
    certificates = [date_certificate(book, day) for day in DAYS]
    for day in DAYS:
        found += [stack_on(book, day), needed(book, day)]
    for decree in book.standing:
        found += [fate(book, decree), reach(book, decree)]
        certificates.append(lost_certificate(book, decree))
    found += [holds(one, thing) for one in (book, other) for thing in certificates]
    return found + certificates


class AskedTest(Case):
    def test_asking_changes_nothing(self):
        for book in books("whole asked", 25):
            other = Book(book.first_rule, book.first_date, *book.standing[1:])
            before, expected = picture((book, other)), picture(told(book, other))
            self.assertEqual(picture(told(book, other)), expected)
            self.assertEqual(picture((book, other)), before)

    def test_asked_changed_and_asked_again(self):
        rand = random.Random(34)
        for book in books("whole changed", 12, most=8):
            changing = Book(book.first_rule, book.first_date)
            for decree in book.recorded + rand.choices(book.recorded or [J], k=4):
                word = rand.choice(("record", "record", "withdraw"))
                getattr(changing, word)(decree)
                anew = Book(book.first_rule, book.first_date, *changing.recorded, withdrawn=changing.withdrawn)
                self.assertEqual(picture(told(changing, book)), picture(told(anew, book)))

    def test_withdrawn_is_like_never_recorded(self):
        for book in books("whole withdrawn", 20, most=12):
            other = Book(book.first_rule, book.first_date, *book.recorded)
            never = Book(book.first_rule, book.first_date, *book.recorded[::2])
            other.withdraw(*book.recorded[1::2])
            self.assertEqual(other.standing, never.standing)
            # The dates that are asked for are those of all decrees, of the withdrawn ones, too.
            dates = dates_of(other)
            self.assertEqual(picture(days_told(other, dates)), picture(days_told(never, dates)))
            asked = told(other, book), told(never, book)
            cut = [len(days_told(one, dates_of(one))) for one in (other, never)]
            self.assertEqual(picture(asked[0][cut[0]:]), picture(asked[1][cut[1]:]))
            self.assertEqual([parted(other, never), agree_from(other, never)], [None, 0])

    def test_every_order_of_calls(self):
        for book in books("whole orders", 8, most=4):
            expected = picture(told(book, PLAIN))
            calls = [("record", decree) for decree in book.recorded]
            calls += [("withdraw", decree) for decree in book.withdrawn]
            for order in itertools.islice(itertools.permutations(calls), 24):
                other = Book(book.first_rule, book.first_date)
                for word, decree in order + order[:1]:
                    getattr(other, word)(decree)
                self.assertEqual(picture(told(other, PLAIN)), expected)


class MovedTest(Case):
    def check_moved(self, book, other, days):
        """Check that the other book, begun so many days earlier, tells the same about days that are moved."""
        expected = [(event[0] + days, moved(event[1], days), *event[2:]) for event in events(book)]
        self.check_same(events, [other], expected)
        for day in DAYS:
            self.assertEqual(date_on(other, day + days), date_on(book, day))
            self.assertEqual(needed(other, day + days), [moved(decree, days) for decree in needed(book, day)])
            for months in (0, 1, 6, 10 ** 20):
                self.assertEqual(later(other, day + days, months=months), later(book, day, months=months) + days)
            self.assertEqual(count_runs(other, days, day + days), count_runs(book, 0, day))
            self.assertEqual(count_days(other, "a", days, day + days), count_days(book, "a", 0, day))
        for date in dates_of(book):
            found = [day - days for day in days_of(other, date) if day >= days]
            self.assertEqual(found, days_of(book, date))
        for decree in book.standing:
            word, thing = fate(book, decree)
            if word == "lost":
                expected = (word, moved(thing, days) if thing is not None else None)
            else:
                expected = (word, thing + days)
            self.check_same(fate, [other, moved(decree, days)], expected)

    def test_begun_some_days_earlier(self):
        for book in books("whole earlier", 60) + books("whole earlier far", 15, years=(0, FAR)):
            for days in (1, 2, 7, 50, 10 ** 30):
                self.check_moved(book, begun_before(book, days), days)

    def test_two_books_begun_some_days_earlier(self):
        rand = random.Random(36)
        for book in books("whole pairs", 40):
            start = date_on(Book(book.first_rule, book.first_date), 3)
            for other in (Book(book.first_rule, start, *book.standing), there_and_back(rand, book)):
                for days in (1, 7, 10 ** 30):
                    pair = begun_before(book, days), begun_before(other, days)
                    end = agree_from(*pair)
                    self.assertEqual(end is None, agree_from(book, other) is None)
                    if end is not None:
                        self.assertEqual(max(0, end - days), agree_from(book, other))
                    for last in (0, 9, 10 ** 25):
                        many = differing(*pair, last=last + days) - differing(*pair, last=days - 1)
                        self.assertEqual(many, differing(book, other, last=last))

    def test_all_years_moved(self):
        rand = random.Random(37)
        for book in books("whole years", 40):
            other, dates = there_and_back(rand, book), dates_of(book)
            for years in (WHOLE, -WHOLE * 10 ** 40):
                one, two = shifted(book, years), shifted(other, years)
                expected = shifted(days_told(book, dates), years)
                self.assertEqual(picture(days_told(one, shifted(dates, years))), picture(expected))
                self.assertEqual(parted(one, two), parted(book, other))
                self.assertEqual(agree_from(one, two), agree_from(book, other))
                for decree in book.standing:
                    self.check_same(fate, [one, shifted(decree, years)], shifted(fate(book, decree), years))
                    self.check_same(reach, [one, shifted(decree, years)], reach(book, decree))


class NothingChangesTest(Case):
    def test_decrees_made_later(self):
        rand, changing = random.Random(35), 0
        for book in books("whole later", 120):
            for made in (1, 5, 20, 10 ** 20):
                rule, date = stack_on(book, made)[-1]
                decree = moved(some_decree(rand, rule, [date], (0, 1), 0), made)
                other = Book(book.first_rule, book.first_date, *book.standing, decree)
                first = parted(book, other)
                self.assertTrue(first is None or first >= made)
                changing += first is not None
                for day in (0, 1, 3, 12, made - 1):
                    if day < made:
                        self.assertEqual(date_on(other, day), date_on(book, day))
                        self.assertEqual(differing(book, other, last=day), 0)
        self.assertTrue(changing > 100, changing)

    def test_lost_and_void_decrees(self):
        seen = {"lost": 0, "void": 0, "effective": 0}
        for book in books("whole lost", 80, most=12):
            dates = dates_of(book)
            expected = picture(days_told(book, dates))
            for decree in book.standing:
                word = fate(book, decree)[0]
                seen[word] += 1
                if word != "effective":
                    other = without(book, decree)
                    self.assertEqual(picture(days_told(other, dates)), expected)
                    self.check_same(reach, [book, decree], (None, 0))
                    self.assertEqual([stack_on(other, day) for day in DAYS], [stack_on(book, day) for day in DAYS])
                    self.assertFalse(any(decree in needed(book, day) for day in DAYS))
        self.assertTrue(min(seen.values()) > 30, seen)
