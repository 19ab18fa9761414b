"""The first days of many books, compared with going day by day [3, 10 to 12]."""

import itertools
from collections import Counter

from decreedays.book import Book
from decreedays.course import date_on, events, stack_on, stretches, walk
from tests.case import Case, picture
from tests.scenarios import books
from tests.simulation import Walker, expected_stretches


class NearTest(Case):
    def check_days(self, book, many):
        """Check events, dates, stacks, stretches and walks of the first days. Return the events of these days."""
        walker = Walker(book)
        stacks = [walker.now()]
        for _ in range(1, many):
            walker.step()
            stacks.append(walker.now())
        dates = [stack[-1][1] for stack in stacks]
        happened = [event for event in self.call(events, book) if event[0] < many]
        self.assertEqual(picture(happened), picture(walker.events), str(book))
        self.assertEqual(picture([self.call(date_on, book, day) for day in range(many)]), picture(dates), str(book))
        self.assertEqual(picture([self.call(stack_on, book, day) for day in range(many)]), picture(stacks), str(book))
        self.assertEqual(picture(list(itertools.islice(walk(book), many))), picture(list(enumerate(dates))))
        last = many - 1
        found = [(first, end) for first, end in self.call(stretches, book) if first <= last]
        expected = expected_stretches(walker.events)
        self.assertEqual(picture(found[:-1]), picture(expected[:-1]), str(book))
        self.assertEqual(found[-1][0], expected[-1][0])
        self.assertTrue(found[-1][1] is None or found[-1][1] >= last)
        return happened

    def test_many_books(self):
        kinds, chains = Counter(), Counter()
        for book in books(11, 1000):
            happened = self.check_days(book, 60)
            kinds.update((event[1][0], event[4]) for event in happened)
            chains.update(Counter(event[0] for event in happened).values())
        # The comparison is worth something only if enough of everything happens.
        for kind, is_effective in itertools.product(("rule", "jump", "rename", "restore"), (True, False)):
            self.assertTrue(kinds[kind, is_effective] > 50 or (kind, is_effective) == ("rule", False), kinds)
        self.assertTrue(chains[1] > 500 and chains[2] > 50 and chains[3] > 5, chains)

    def test_books_with_many_decrees(self):
        for book in books(12, 150, most=30, latest=8):
            self.check_days(book, 45)

    def test_all_orders_of_three_decrees(self):
        for book in books(13, 60, most=4, latest=3):
            expected = picture(events(book))
            for order in itertools.permutations(book.recorded):
                other = Book(book.first_rule, book.first_date, withdrawn=book.withdrawn)
                for decree in order:
                    other.record(decree)
                self.assertTrue(other == book)
                self.assertEqual(picture(events(other)), expected)

    def test_stretches_are_whole(self):
        for book in books(14, 300):
            self.check_same(stretches, [book], expected_stretches(events(book)))
