"""Events, dates and stacks however far, compared with going there over whole rounds [3, 11, 12]."""

import itertools
import random
from collections import Counter

from decreedays.book import Book
from decreedays.course import date_on, events, stack_on, stretches, walk
from tests.case import Case, picture
from tests.samples import L, LONGEST, R, SMALLEST, round_days
from tests.scenarios import books
from tests.simulation import Walker, expected_stretches

D = (1, "a", 1)
ROUNDS = 10 ** 20
FAR = 10 ** 50
# Twelve years are a whole number of rounds for each rule of one to four years.
WHOLE = 12


def shifted(thing, years):
    """Return the thing with all dates in it moved by so many years."""
    if isinstance(thing, Book):
        recorded = [shifted(decree, years) for decree in thing.recorded]
        withdrawn = [shifted(decree, years) for decree in thing.withdrawn]
        return Book(thing.first_rule, shifted(thing.first_date, years), *recorded, withdrawn=withdrawn)
    if isinstance(thing, tuple) and len(thing) == 3 and isinstance(thing[0], int) and isinstance(thing[1], str):
        return (thing[0] + years, *thing[1:])
    if isinstance(thing, (tuple, list)):
        return type(thing)([shifted(part, years) for part in thing])
    return thing


class FarTest(Case):
    def check_far(self, book):
        """Check all events, and the days around them and far behind them. Return the events."""
        walker = Walker(book)
        walker.go_to_the_end()
        found = self.call(events, book)
        self.assertEqual(picture(found), picture(walker.events), str(book))
        self.check_same(stretches, [book], expected_stretches(walker.events))
        days = {0, 1, 10 ** 20, 10 ** 60, 10 ** 999}
        days.update(event[0] + more for event in found for more in (-1, 0, 1, 40) if event[0] + more >= 0)
        walker = Walker(book)
        for day in sorted(days):
            walker.go_to(day)
            self.check_same(date_on, [book, day], walker.present())
            self.check_same(stack_on, [book, day], walker.now())
            self.assertEqual(picture(next(walk(book, since=day))), picture((day, walker.present())))
        return found

    def test_years_of_either_sign(self):
        late, seen = Counter(), 0
        for years in ((0, ROUNDS, -ROUNDS), (FAR, FAR + 1, FAR - 2), (-FAR, 1 - FAR), (FAR, -FAR, 0, 5, -ROUNDS * 7)):
            for book in books(f"years {years[0]} {years[1]}", 150, years=years):
                found = self.check_far(book)
                seen += len(found)
                late.update(len(str(event[0])) for event in found)
        self.assertTrue(seen > 1000)
        self.assertTrue(sum(many for digits, many in late.items() if 15 < digits < 30) > 50, late)
        self.assertTrue(sum(many for digits, many in late.items() if digits > 45) > 50, late)

    def test_decrees_made_late(self):
        seen = 0
        for latest in (ROUNDS, FAR):
            for book in books(f"made {latest}", 150, years=(-latest, 0, latest), latest=latest * 2):
                seen += len([event for event in self.check_far(book) if event[1][1] > 1000])
        self.assertTrue(seen > 20)

    def test_everything_moved_by_whole_rounds(self):
        for book in books(31, 100):
            for years in (WHOLE * ROUNDS, -WHOLE * ROUNDS, WHOLE * FAR, -WHOLE * FAR):
                other = shifted(book, years)
                self.check_same(events, [other], shifted(events(book), years))
                self.check_same(stretches, [other], stretches(book))
                for day in (0, 3, 17, 10 ** 20):
                    self.check_same(stack_on, [other, day], shifted(stack_on(book, day), years))

    def test_an_event_delayed_by_rounds(self):
        for rule, rounds in itertools.product((R, L, LONGEST, SMALLEST), (1, 2, 10 ** 6, ROUNDS - 1, ROUNDS)):
            name, days = rule[-1][-1]
            start = (0, rule[0][0][0], 1)
            awaited = (rounds * len(rule) - 1, name, days)
            for made in (0, rounds * round_days(rule) - 1):
                decree = ("jump", made, awaited, start)
                day = rounds * round_days(rule) - 1
                book = Book(rule, start, decree)
                self.check_same(events, [book], [(day, decree, awaited, start, True)])
                self.check_same(date_on, [book, day - 1 + round_days(rule) * 10 ** 40], awaited_before(rule, 10 ** 40))
                self.check_same(stretches, [book], [(0, day - 1), (day, None)] if day > 0 else [(0, None)])
            late = Book(rule, start, ("jump", day + 1, awaited, start))
            self.check_same(events, [late], [])

    def test_a_delay_brings_a_date_again_after_the_decree_was_made(self):
        back, late = ("jump", 0, (1, "b", 2), (1 - ROUNDS, "a", 1)), ("restore", 1000, (1, "a", 3))
        day = 4 + 5 * ROUNDS + 2
        first = (4, back, (1, "b", 2), (1 - ROUNDS, "a", 1), True)
        second = (day, late, (1, "a", 3), (2 + ROUNDS, "a", 2), True)
        self.check_same(events, [Book(R, D, back, late)], [first, second])

    def test_days_of_a_thousand_digits(self):
        rand = random.Random(12)
        for _ in range(20):
            number = rand.randrange(10 ** 998, 10 ** 999)
            day = 5 * number + 4
            self.check_same(date_on, [Book(R, D), day], (1 + number, "b", 2))
            self.check_same(date_on, [Book(SMALLEST, (-7, "a", 1)), day], (day - 7, "a", 1))
            self.check_same(stack_on, [Book(R, D), day], [(R, (1 + number, "b", 2))])
            decree = ("jump", day, (1 + number, "b", 2), (-number, "b", 1))
            book = Book(R, D, decree)
            self.check_same(events, [book], [(day, decree, (1 + number, "b", 2), (-number, "b", 1), True)])
            self.check_same(stretches, [book], [(0, day - 1), (day, None)])
            self.check_same(date_on, [book, 2 * day + 1], (1, "b", 1))
            self.check_same(stack_on, [book, day], [(R, (1 + number, "b", 2)), (R, (-number, "b", 1))])

    def test_days_longer_than_python_writes(self):
        number = 10 ** 5000
        book = Book(R, D, ("jump", 0, (number, "a", 1), (-number, "a", 1)))
        self.assertTrue([event[0] for event in events(book)] == [5 * (number - 1)])
        self.assertTrue(date_on(book, 10 * number - 5) == (0, "a", 1))
        self.assertTrue(next(walk(book, since=5 * number - 5)) == (5 * number - 5, (-number, "a", 1)))


def awaited_before(rule, rounds):
    """Return the date of the day before the first day of the round with this number."""
    return (rounds * len(rule) - 1, *rule[-1][-1])
