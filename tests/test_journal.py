"""Journals: registries that keep the notices [2, 20]."""

import random
from collections import Counter

from decreedays.book import Book
from decreedays.errors import NoDecree, TooMany, Unlike
from decreedays.registry import Journal, Registry
from tests.case import Case, picture
from tests.samples import E, J, L, N, R, S
from tests.scenarios import books
from tests.test_book import MANY
from tests.test_days import BOOK, D
from tests.test_registry import WORDS, filled, some_contract


def expected_total(entries):
    """Return the notices of all entries as one step."""
    found = {}
    for today, notices in entries:
        for name, before, after in notices:
            found[name] = (found.get(name, (before,))[0], after)
    return [(name, *days) for name, days in sorted(found.items()) if days[0] != days[1]]


class JournalTest(Case):
    def check_entries(self, journal, entries):
        """Check the entries and the total."""
        self.assertEqual(picture(journal.entries), picture(entries))
        self.check_same(journal.total, [], expected_total(entries))

    def test_example(self):
        journal = Journal(R, D)
        self.assertEqual(journal.add("rent", ("later", 3, 1)), 5)
        found = [journal.record(J), journal.withdraw(J)]
        self.assertEqual(picture(found), picture([[("rent", 5, 4)], [("rent", 4, 5)]]))
        self.check_entries(journal, [(0, [("rent", 5, 4)]), (0, [("rent", 4, 5)])])
        self.assertEqual(journal.total(), [])

    def test_a_journal_is_a_registry(self):
        for journal in (Journal(R, D), Journal.of(BOOK), Journal(rule=R, start=D)):
            self.assertIs(type(journal), Journal)
            self.assertIsInstance(journal, Registry)
            self.check_entries(journal, [])
        self.assertIs(type(Registry.of(BOOK)), Registry)
        self.assertFalse(hasattr(Registry(R, D), "entries") or hasattr(Registry(R, D), "total"))

    def test_entries_without_notices(self):
        journal = Journal(R, D)
        for step, call in enumerate((journal.record, journal.withdraw, journal.merge)):
            journal.set_today(10 + step)
            self.assertEqual(call(), [])
        journal.set_today(1)
        journal.record(J)
        journal.record(J)
        self.check_entries(journal, [(10, []), (11, []), (12, []), (1, []), (1, [])])

    def test_the_day_that_was_today_then(self):
        journal = filled(Journal, Book(R, D), {"rent": ("later", 3, 1)})
        journal.set_today(7)
        journal.merge(Book(R, D, J))
        journal.set_today(2)
        journal.withdraw(J)
        self.check_entries(journal, [(7, [("rent", 5, 4)]), (2, [("rent", 4, 5)])])

    def test_other_calls_are_no_entries(self):
        journal = filled(Journal, BOOK, {"rent": ("later", 3, 1)})
        journal.set_today(3)
        journal.add_all(a=("later", 0, 0), b=("later", 0, 1))
        journal.cancel("a")
        self.assertEqual([journal.due, journal.names(), journal.date_today()], [["b"], ["b", "rent"], (1, "b", 1)])
        self.check_entries(journal, [])

    def test_refused_calls_are_no_entries(self):
        journal = filled(Journal, BOOK, {"rent": ("later", 3, 1)})
        journal.record(*MANY[:20])
        before = picture(journal.entries)
        for kind, call, args in (
                (NoDecree, journal.record, [None]), (NoDecree, journal.withdraw, [J, "x"]),
                (TooMany, journal.record, MANY[:30]), (TooMany, journal.withdraw, MANY[:30]),
                (TooMany, journal.merge, [Book(R, D, *MANY[:30])]), (Unlike, journal.merge, [Book(L, D)])):
            self.assertIs(type(self.call(call, *args)), kind)
            self.assertEqual(picture(journal.entries), before)

    def test_a_contract_that_is_removed_and_another_one_under_its_name(self):
        journal = filled(Journal, Book(R, D), {"rent": ("later", 3, 1)})
        journal.record(J)
        journal.cancel("rent")
        self.check_entries(journal, [(0, [("rent", 5, 4)])])
        journal.withdraw(J)
        self.assertEqual(journal.total(), [("rent", 5, 4)])
        journal.add("rent", ("date", 0, (2, "a", 1), 1))
        self.assertEqual(journal.total(), [("rent", 5, 4)])
        again = ("jump", 0, (1, "b", 1), (3, "a", 1))
        self.assertEqual(journal.record(again), [("rent", 5, None)])
        self.check_entries(journal, [(0, [("rent", 5, 4)]), (0, []), (0, [("rent", 5, None)])])
        self.assertEqual(journal.total(), [("rent", 5, None)])
        journal.withdraw(again)
        # The days are the first one and the last one again.
        self.assertEqual(journal.total(), [])

    def test_new_lists(self):
        journal = filled(Journal, Book(R, D), {"rent": ("later", 3, 1)})
        returned = journal.record(J)
        expected = picture([(0, [("rent", 5, 4)])])
        returned.append(("x", 0, 1))
        self.assertEqual(picture(journal.entries), expected)
        found = journal.entries
        found[0][1].clear()
        found.clear()
        self.assertEqual(picture(journal.entries), expected)
        total = journal.total()
        total.clear()
        self.assertEqual(journal.total(), [("rent", 5, 4)])
        kept = journal.entries
        journal.withdraw(J)
        self.assertEqual(picture(kept), expected)

    def test_two_journals(self):
        one, other = Journal.of(BOOK), Journal.of(BOOK)
        one.record(E)
        self.assertEqual([len(one.entries), len(other.entries)], [1, 0])

    def test_many_steps(self):
        rand, sizes = random.Random(22), Counter()
        for book in books("journal", 80, most=12):
            dates = [decree[2] for decree in book.recorded] + [book.first_date, (2, "a", 1)]
            contracts = {name: some_contract(rand, dates, (0, 2, 5, 11, 10 ** 20)) for name in WORDS[::3]}
            empty = Book(book.first_rule, book.first_date)
            journal, registry = filled(Journal, empty, contracts), filled(Registry, empty, contracts)
            beginning = {name: journal.day_of(name) for name in contracts}
            entries = []
            for step in range(7):
                journal.set_today(step * 3)
                chosen = rand.choices(book.recorded + [J, S, N], k=rand.randint(0, 4))
                word = rand.choice(("record", "record", "withdraw", "merge"))
                if word == "merge":
                    chosen = [Book(book.first_rule, book.first_date, *chosen)]
                entries.append((step * 3, getattr(registry, word)(*chosen)))
                self.assertEqual(picture(getattr(journal, word)(*chosen)), picture(entries[-1][1]))
                self.check_entries(journal, entries)
                changed = [(name, beginning[name], journal.day_of(name)) for name in sorted(contracts)]
                changed = [notice for notice in changed if notice[1] != notice[2]]
                self.assertEqual(picture(journal.total()), picture(changed))
                sizes[len(changed)] += 1
        self.assertTrue(len(sizes) > 5, sizes)
