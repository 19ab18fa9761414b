"""When two books differ and agree, compared with going day by day [2, 4, 7, 17, 18]."""

import itertools
import random
from collections import Counter

from decreedays.book import Book
from decreedays.compare import agree_from, differing, parted, reach
from decreedays.course import date_on, stack_on
from decreedays.errors import NoDay, NoDecree
from tests.case import Case, picture
from tests.samples import E, J, L, N, ODD, R, S, SMALLEST, STRANGE
from tests.scenarios import books, some_book, some_date, some_rule
from tests.simulation import advance, without
from tests.test_days import BOOK, D, NO_DAYS, PLAIN
from tests.test_far import WHOLE, shifted
from tests.twins import differences, expected_agree_from, expected_differing, expected_parted

NAMES = str.maketrans("abcd", "wxyz")


def called_otherwise(thing):
    """Return the thing with all months called by other names."""
    if isinstance(thing, Book):
        recorded = [called_otherwise(decree) for decree in thing.recorded]
        withdrawn = [called_otherwise(decree) for decree in thing.withdrawn]
        rule, start = called_otherwise(thing.first_rule), called_otherwise(thing.first_date)
        return Book(rule, start, *recorded, withdrawn=withdrawn)
    if isinstance(thing, str):
        return thing if thing in ("rule", "jump", "rename", "restore") else thing.translate(NAMES)
    if isinstance(thing, tuple):
        return tuple(called_otherwise(part) for part in thing)
    return thing


def with_longer_rounds(book, times):
    """Return the book with all rounds written so many times."""
    standing = [(*decree[:3], decree[3] * times, decree[4]) if decree[0] == "rule" else decree
                for decree in book.standing]
    return Book(book.first_rule * times, book.first_date, *standing)


def neighbours(rand, book):
    """Return books that are near to a book in some way."""
    rule, date, standing = book.first_rule, book.first_date, book.standing
    kept = [decree for decree in standing if rand.random() < 0.7]
    found = [Book(rule, date, *kept), with_longer_rounds(book, 2), Book(rule, date), book.copy()]
    other = some_book(rand, most=3)
    found.append(Book(rule, date, *standing, *other.recorded))
    found.append(Book(rule, date_on(Book(rule, date), rand.choice((1, 2, 30))), *kept))
    found.append(some_book(rand))
    found += [there_and_back(rand, book) for _ in range(2)]
    # Another rule that has the first date, too.
    months = rule[date[0] % len(rule)]
    found.append(Book(rand.choice(((months,), (months, *some_rule(rand)))), (0, *date[1:]), *kept))
    return found


def there_and_back(rand, book, days=range(26)):
    """Return the book with two more decrees: one that changes the calendar for a time, one that restores it."""
    day = rand.choice(days)
    rule, date = stack_on(book, day)[-1]
    other = rand.choice((rule, rule * 2, some_rule(rand)))
    start = some_date(rand, other, date[0] + rand.randint(-2, 2))
    back = advance(other, start, rand.randint(1, 40))
    return Book(book.first_rule, book.first_date, *book.standing, ("rule", day, date, other, start),
                ("restore", day + 1, back))


class PairTest(Case):
    def check_pair(self, one, other):
        """Check all that is told about two books, in both orders. Return it."""
        found = (expected_parted(one, other), expected_agree_from(one, other))
        counts = [expected_differing(one, other, last) for last in (0, 3, 40, 1000, 10 ** 30)]
        for books_in_order in ((one, other), (other, one)):
            self.check_same(parted, books_in_order, found[0])
            self.check_same(agree_from, books_in_order, found[1])
            for last, many in zip((0, 3, 40, 1000, 10 ** 30), counts):
                self.assertEqual(picture(self.call(differing, *books_in_order, last=last)), picture(many))
        return found

    def test_examples(self):
        shifted_book = Book(R, (1, "a", 2))
        self.assertEqual(picture([parted(BOOK, PLAIN), parted(PLAIN, BOOK, shifted_book), parted(PLAIN)]),
                         picture([4, 0, None]))
        found = [agree_from(BOOK, PLAIN), agree_from(PLAIN, PLAIN), agree_from(PLAIN, shifted_book)]
        self.assertEqual(picture(found), picture([6, 0, None]))
        found = [differing(BOOK, PLAIN, last=10 ** 30), differing(BOOK, PLAIN, last=4)]
        self.assertEqual(picture(found), picture([2, 1]))
        self.check_same(reach, [BOOK, J], (4, 13))

    def test_one_book_and_none(self):
        for found in (parted(), parted(BOOK), parted(PLAIN)):
            self.assertIs(found, None)
        for found in (agree_from(), agree_from(BOOK), agree_from(PLAIN)):
            self.assertEqual(picture(found), "0")

    def test_near(self):
        rand, seen = random.Random(23), Counter()
        for book in books("compare near", 120):
            for other in neighbours(rand, book):
                first, end = self.check_pair(book, other)
                seen["never" if first is None else "always" if end is None else "for a time"] += 1
                seen["later"] += first is not None and first > 0
        self.assertTrue(min(seen.values()) > 60 and len(seen) == 4, seen)

    def test_day_by_day(self):
        # The comparison itself is compared with the days one by one.
        rand = random.Random(24)
        for book in books("compare daily", 40):
            for other in neighbours(rand, book):
                days = differences(book, other, 600)
                self.check_same(parted, [book, other], days[0] if days else None)
                self.assertEqual([differing(book, other, last=last) for last in range(0, 600, 7)],
                                 [sum(day <= last for day in days) for last in range(0, 600, 7)])
                end = agree_from(book, other)
                if end is None:
                    self.assertTrue(days[-1] > 350)
                else:
                    self.assertEqual(end, days[-1] + 1 if days else 0)

    def test_many_books(self):
        rand = random.Random(25)
        for book in books("compare many", 25):
            others = [book, *neighbours(rand, book)]
            for many in (2, 3, 4):
                chosen = rand.choices(others, k=many)
                pairs = list(itertools.combinations(chosen, 2))
                firsts = [first for first in (parted(*pair) for pair in pairs) if first is not None]
                ends = [agree_from(*pair) for pair in pairs]
                end = None if None in ends else max(ends)
                for order in itertools.permutations(chosen):
                    self.check_same(parted, order, min(firsts, default=None))
                    self.check_same(agree_from, order, end)

    def test_events_that_change_no_date(self):
        for decree in (("jump", 0, (1, "b", 1), (1, "b", 1)), ("rule", 0, (1, "b", 1), R * 3, (1, "b", 1)),
                       ("restore", 0, (1, "b", 1)), ("rename", 0, (1, "b", 1), "q", "z")):
            self.check_same(parted, [PLAIN, Book(R, D, decree)], None)
            self.check_same(agree_from, [PLAIN, Book(R, D, decree)], 0)
            self.assertEqual(differing(PLAIN, Book(R, D, decree), last=10 ** 30), 0)

    def test_the_last_day_counts(self):
        self.assertEqual([differing(BOOK, PLAIN, last=last) for last in range(8)], [0, 0, 0, 0, 1, 2, 2, 2])
        other = Book(R, (1, "a", 2))
        self.assertEqual([differing(PLAIN, other, last=last) for last in (0, 1, 9)], [1, 2, 10])

    def test_the_longest_rules(self):
        # All twenty years of the rule differ from one another, and so do the dates in the end.
        start = (0, "x", 1)
        one, other = Book(ODD, start), Book(ODD[:2], start)
        self.check_same(parted, [one, other], 64)
        self.check_same(agree_from, [one, other], None)
        self.check_same(parted, [Book(SMALLEST, D), Book(SMALLEST * 20, D)], None)


class EquivalentTest(Case):
    def test_rounds_written_twice_and_thrice(self):
        for book in books("equivalent", 60):
            for times in (2, 3):
                other = with_longer_rounds(book, times)
                self.check_same(parted, [book, other], None)
                self.check_same(agree_from, [book, other], 0)
                self.assertEqual(differing(book, other, last=10 ** 30), 0)

    def test_other_names_and_other_years(self):
        rand = random.Random(26)
        for book in books("moved", 40):
            for other in neighbours(rand, book)[:7]:
                pairs = [(called_otherwise(book), called_otherwise(other))]
                for years in (WHOLE, -WHOLE * 10 ** 40):
                    pairs.append((shifted(book, years), shifted(other, years)))
                for pair in pairs:
                    self.assertEqual(parted(*pair), parted(book, other))
                    self.assertEqual(agree_from(*pair), agree_from(book, other))
                    for last in (5, 10 ** 30):
                        self.assertEqual(differing(*pair, last=last), differing(book, other, last=last))
                for moved, unmoved in zip(pairs, ((book, other),) * 3):
                    # Names and years that no date of the other one has.
                    self.check_same(parted, [moved[0], unmoved[0]], 0)
                    self.assertEqual(differing(moved[1], unmoved[1], last=10 ** 30), 10 ** 30 + 1)


class ReachTest(Case):
    def test_near(self):
        seen = Counter()
        rand = random.Random(27)
        for book in books("reach", 100, most=9):
            book = there_and_back(rand, book)
            for decree in book.standing:
                other = without(book, decree)
                found = expected_parted(book, other), expected_agree_from(book, other)
                self.check_same(reach, [book, decree], found)
                seen[found[0] is None, found[1] is None] += 1
        self.assertTrue(min(seen[key] for key in ((True, False), (False, True), (False, False))) > 20, seen)

    def test_void_and_lost_decrees_reach_nothing(self):
        void, late = ("jump", 0, (1, "a", 2), (1, "z", 1)), ("restore", 2, (1, "a", 2))
        book = Book(R, D, J, S, N, void, late)
        for decree in (void, late, N):
            self.check_same(reach, [book, decree], (None, 0))

    def test_no_standing_decree(self):
        book = Book(R, D, J, S, N, E, withdrawn=[N])
        for thing in STRANGE + (N, ("jump", False, *J[2:]), list(J), J[:3], "restore 2 3 b 1", L, D):
            self.check_raises(NoDecree, "decree", thing, reach, book, thing)
            self.check_raises(NoDecree, "decree", thing, reach, PLAIN, thing)

    def test_the_book_stays(self):
        book = Book(R, D, J, S, N)
        before = picture(book)
        for decree in book.standing:
            reach(book, decree)
        self.assertEqual(picture(book), before)


class WrongTest(Case):
    def test_no_day(self):
        for thing in NO_DAYS:
            self.check_raises(NoDay, "day", thing, differing, BOOK, PLAIN, last=thing)
            self.check_raises(NoDay, "day", thing, differing, BOOK, BOOK, last=thing)

    def test_keywords(self):
        self.assertRaises(TypeError, differing, BOOK, PLAIN, 4)
        self.assertRaises(TypeError, differing, BOOK, PLAIN)
        self.assertEqual(differing(last=4, other=PLAIN, one=BOOK), 1)
        self.assertEqual(reach(decree=J, book=BOOK), (4, 13))
