"""Registries: contracts, their days, today and notices [2, 19, 20]."""

import itertools
import random
from collections import Counter

from decreedays.book import Book
from decreedays.errors import NoContract, NoDate, NoDay, NoDecree, NoName, NoRule, Taken, TooMany, Unknown, Unlike
from decreedays.registry import Journal, Registry
from tests.case import Case, picture
from tests.samples import E, J, L, LONGEST, N, ODD, R, S, SIXTY_DIGITS, STRANGE, round_days, spoiled
from tests.scenarios import books, some_book
from tests.simulation import expected_date, expected_days
from tests.test_book import MANY, NO_DECREES
from tests.test_days import BOOK, D, NO_DAYS
from tests.test_months import NO_NAMES
from tests.tour import expected_day

CONTRACTS = (
    ("date", 0, (3, "a", 2), 1), ("date", 5, (3, "a", 2), 1), ("date", 0, (3, "a", 2), 2), ("date", 0, D, 10 ** 59),
    ("later", 0, 0), ("later", 3, 1), ("later", 10 ** 59, 10 ** 59), ("month", 0, 0), ("month", 3, 2),
)
NO_CONTRACTS = STRANGE + (
    ("date", 0, D), ("date", 0, D, 0), ("date", 0, D, True), ("date", 0, D, -1), ("date", -1, D, 1),
    ("date", 0, 1, 1), ("date", True, D, 1), ("date", 0, (1, "a", 0), 1), ("date", 0, D, 1, 1),
    ("date", 0, list(D), 1), ("date", 0, D, "1"),
    ("later", 0), ("later", 0, -1), ("later", 0, True), ("later", False, 0), ("later", 0, None), ("later", 0, 0, 0),
    ("later", 0, D), ["later", 0, 0], ("Later", 0, 0), ("month", 0, -1), ("month", -1, 0), ("month", 0, True),
    ("years", 0, 0), ("", 0, 0), (0, 0, 0), (None, 0, 0), ([], 0, 0), "later 0 0", (("later",), 0, 0),
)
WORDS = ["abcdefgh"[:length] + letter for letter in "pqrstuv" for length in range(7)]


def is_contract(thing):
    """Tell in other words than the program's whether the thing is a contract."""
    if type(thing) is not tuple or len(thing) not in (3, 4) or type(thing[0]) is not str:
        return False
    if [type(part) for part in thing] == [str, int, int]:
        return thing[0] in "later month".split() and min(thing[1:]) >= 0
    if [type(part) for part in thing] != [str, int, tuple, int] or [type(part) for part in thing[2]] != [int, str, int]:
        return False
    name = thing[2][1]
    is_date = 1 <= thing[2][2] <= 60 and 1 <= len(name) <= 8 and not name.strip("abcdefghijklmnopqrstuvwxyz")
    return thing[0] == "date" and thing[1] >= 0 and is_date and thing[3] >= 1


def contract_day(book, contract):
    """Return the day of a contract as the simulation tells it."""
    if contract[0] != "date":
        return expected_day(book, contract)
    days = [day for day in expected_days(book, contract[2]) if day >= contract[1]]
    return days[contract[3] - 1] if contract[3] <= len(days) else None


def some_contract(rand, dates, days):
    """Return a contract of any kind about some of these dates and days."""
    kind = rand.choice(("date", "later", "month"))
    if kind == "date":
        return (kind, rand.choice(days), rand.choice(dates), rand.choice((1, 1, 1, 2, 3)))
    return (kind, rand.choice(days), rand.choice((0, 1, 2, 7, 12)))


def filled(kind, book, contracts):
    """Return a registry or a journal with a copy of the book and these contracts."""
    registry = kind.of(book)
    for name, contract in contracts.items():
        registry.add(name, contract)
    return registry


def state(registry):
    """Return all that a registry tells."""
    contracts = [(name, registry.contract_of(name), registry.day_of(name)) for name in registry.names()]
    return picture((registry.today, registry.due, registry.date_today(), len(registry), contracts, registry.book()))


class RegistryTest(Case):
    """The same tests for registries and for journals, which do all that a registry does."""

    kind = Registry

    def made(self, *decrees):
        """Return a registry with some contracts under names."""
        contracts = dict(zip(("rent", "fair", "wage", "abcdefgh", "z"), CONTRACTS))
        return filled(self.kind, Book(R, D, *decrees), contracts)

    def check_refused(self, registry, kind, field, value, function, *args, **named):
        """Check that a call raises an error and changes nothing."""
        before = state(registry)
        self.check_raises(kind, field, value, function, *args, **named)
        self.assertEqual(state(registry), before)


class ContractsTest(RegistryTest):
    def test_examples(self):
        registry = self.kind(R, D)
        self.check_same(registry.add, ["rent", ("later", 3, 1)], 5)
        found = registry.add_all(wage=("month", 0, 0), fair=("date", 0, (1, "b", 1), 1))
        self.assertEqual(picture(found), picture([3, 2]))
        self.check_refused(registry, Taken, "name", "rent", registry.add, "rent", ("later", 3, 2))
        registry = self.kind.of(BOOK)
        self.check_same(registry.add, ["first", ("later", 5, 0)], 5)
        self.check_same(registry.set_today, [5], None)
        found = [registry.today, registry.date_today(), registry.due]
        self.assertEqual(picture(found), picture([5, (3, "a", 3), ["first"]]))

    def test_days_of_contracts(self):
        rand = random.Random(19)
        none = 0
        for book in books("contracts", 150) + books("contracts far", 50, years=(0, 10 ** 50)):
            registry = self.kind.of(book)
            dates = [decree[2] for decree in book.recorded] + [book.first_date, (2, "a", 1), (10 ** 50, "b", 1)]
            for name in WORDS[:12]:
                contract = some_contract(rand, dates, (0, 1, 5, 11, 40, 10 ** 20, 10 ** 50 + 3, SIXTY_DIGITS))
                day = contract_day(book, contract)
                self.check_same(registry.add, [name, contract], day)
                self.check_same(registry.day_of, [name], day)
                self.check_same(registry.contract_of, [name], contract)
                none += day is None
        self.assertTrue(100 < none < 2000, none)

    def test_as_far_as_many_rounds(self):
        rounds = 10 ** 58
        for rule in (R, ODD, LONGEST):
            months = sum(len(year) for year in rule)
            start = (0, rule[0][0][0], 1)
            registry = self.kind(rule, start)
            self.assertEqual(registry.add("a", ("later", 4, rounds * months)), rounds * round_days(rule) + 4)
            first = (rounds * len(rule), *start[1:])
            self.assertEqual(registry.add("b", ("date", 7, first, 1)), rounds * round_days(rule))
            last = rounds * round_days(rule) + rule[0][0][1] - 1
            self.assertEqual(registry.add("c", ("month", 0, rounds * months)), last)

    def test_no_contract(self):
        registry = self.made(J)
        for thing in NO_CONTRACTS:
            self.assertFalse(is_contract(thing))
            self.check_refused(registry, NoContract, "contract", thing, registry.add, "new", thing)
            self.check_refused(registry, NoContract, "contract", thing, registry.add_all, new=thing, z=thing)

    def test_spoiled_contracts(self):
        for contract in (CONTRACTS[0], CONTRACTS[5], CONTRACTS[8]):
            for thing in spoiled(contract):
                registry = self.kind(R, D)
                if is_contract(thing):
                    self.check_same(registry.add, ["new", thing], contract_day(Book(R, D), thing))
                else:
                    self.check_raises(NoContract, "contract", thing, registry.add, "new", thing)
                    self.assertEqual(len(registry), 0)

    def test_names(self):
        registry = self.made()
        for thing in NO_NAMES:
            self.check_refused(registry, NoName, "name", thing, registry.add, thing, CONTRACTS[0])
            self.check_refused(registry, NoName, "name", thing, registry.add, thing, thing)
        self.assertEqual(picture(registry.names()), picture(["abcdefgh", "fair", "rent", "wage", "z"]))
        found = registry.names()
        found.clear()
        self.assertEqual(len(registry.names()), 5)

    def test_taken(self):
        registry = self.made()
        for name in registry.names():
            for thing in (CONTRACTS[0], None, ()):
                self.check_refused(registry, Taken, "name", name, registry.add, name, thing)

    def test_unknown(self):
        registry = self.made()
        registry.add("gone", CONTRACTS[0])
        registry.cancel("gone")
        for thing in NO_NAMES + ("gone", "a", "ren", "rents", CONTRACTS[0], {"rent": 1}):
            for function in (registry.cancel, registry.day_of, registry.contract_of):
                self.check_refused(registry, Unknown, "name", thing, function, thing)

    def test_cancel(self):
        registry = self.made(J)
        for place, (name, contract) in enumerate(zip(("rent", "fair", "wage", "abcdefgh", "z"), CONTRACTS)):
            self.assertEqual([len(registry), bool(registry)], [5 - place, True])
            self.check_same(registry.cancel, [name], contract)
            self.check_refused(registry, Unknown, "name", name, registry.cancel, name)
        self.assertEqual([len(registry), bool(registry), registry.names()], [0, False, []])
        self.assertEqual(registry.add("rent", CONTRACTS[4]), 0)
        self.assertEqual(registry.withdraw(J), [])

    def test_limit(self):
        self.assertEqual([self.kind.LIMIT, self.kind(R, D).LIMIT], [40, 40])
        registry = self.kind(R, D)
        for name in WORDS[:40]:
            registry.add(name, ("later", 3, 1))
        self.assertEqual([len(registry), registry.names()], [40, sorted(WORDS[:40])])
        self.check_refused(registry, TooMany, "limit", 40, registry.add, "new", CONTRACTS[0])
        self.check_refused(registry, TooMany, "limit", 40, registry.add_all, new=CONTRACTS[0])
        thing = ("later", 0)
        self.check_refused(registry, NoContract, "contract", thing, registry.add, "new", thing)
        self.check_refused(registry, Taken, "name", WORDS[0], registry.add, WORDS[0], thing)
        self.check_refused(registry, NoName, "name", "New", registry.add, "New", thing)
        self.assertEqual(registry.add_all(), [])
        registry.cancel(WORDS[3])
        self.check_refused(registry, TooMany, "limit", 40, registry.add_all, new=CONTRACTS[0], other=CONTRACTS[0])
        self.assertEqual(registry.add("new", ("later", 3, 1)), 5)


class AddAllTest(RegistryTest):
    def test_days_in_the_order_of_the_names(self):
        contracts = dict(zip(WORDS, CONTRACTS * 4))
        for many in (0, 1, 2, 9, 36):
            registry, other = self.kind.of(BOOK), self.kind.of(BOOK)
            chosen = dict(list(contracts.items())[:many])
            expected = [other.add(name, chosen[name]) for name in sorted(chosen)]
            self.assertEqual(picture(self.call(registry.add_all, **chosen)), picture(expected))
            self.assertEqual(state(registry), state(other))

    def test_all_or_none(self):
        wrong = ("later", 0, -1)
        registry = self.made()
        good = CONTRACTS[4]
        self.check_refused(registry, NoContract, "contract", wrong, registry.add_all, a=good, b=wrong, c=good)
        self.check_refused(registry, NoContract, "contract", wrong, registry.add_all, c=good, b=wrong, rent=good)
        self.check_refused(registry, Taken, "name", "rent", registry.add_all, a=good, rent=good, y=wrong)
        self.check_refused(registry, Taken, "name", "rent", registry.add_all, a=good, rent=wrong, z=wrong)
        self.check_refused(registry, NoName, "name", "Big", registry.add_all, a=wrong, Big=good)
        self.check_refused(registry, NoName, "name", "b1", registry.add_all, a=good, b1=wrong, c=wrong)

    def test_too_many_in_between(self):
        for before in (5, 38, 39, 40):
            registry = self.kind(R, D)
            for name in WORDS[:before]:
                registry.add(name, CONTRACTS[4])
            room = 40 - before
            free = [first + second for first in "wxyz" for second in "abcdefghijk"]
            more = {name: CONTRACTS[5] for name in free[:room + 1]}
            self.check_refused(registry, TooMany, "limit", 40, registry.add_all, **more)
            # What is wrong with a name that comes earlier is found earlier, what comes later is not looked at.
            last = free[room]
            self.check_refused(registry, TooMany, "limit", 40, registry.add_all, **more, zz=None)
            self.check_refused(registry, NoContract, "contract", None, registry.add_all, **{**more, last: None})
            fitting = {name: CONTRACTS[5] for name in free[:room]}
            self.assertEqual(registry.add_all(**fitting), [5] * room)
            self.assertEqual(len(registry), 40)

    def test_keywords_that_are_names_of_the_program(self):
        registry = self.kind(R, D)
        days = registry.add_all(name=CONTRACTS[4], contract=CONTRACTS[5], book=CONTRACTS[7], cls=CONTRACTS[4])
        self.assertEqual(picture(days), picture([2, 0, 5, 0]))


class TodayTest(RegistryTest):
    def test_today(self):
        registry = self.made(J, S, N)
        self.assertEqual(picture([registry.today, registry.date_today()]), picture([0, D]))
        for day in (5, 0, 3, 10 ** 59, 4):
            self.check_same(registry.set_today, [day], None)
            self.check_same(registry.date_today, [], expected_date(BOOK, day))
            self.assertEqual(picture(registry.today), picture(day))
            self.assertEqual(registry.due, [name for name in registry.names() if registry.day_of(name) == day])

    def test_due(self):
        registry = self.kind(R, D)
        self.assertEqual(registry.due, [])
        registry.add_all(a=("month", 0, 0), b=("later", 0, 0), c=("date", 0, D, 1))
        registry.add_all(e=("later", 2, 0), d=("date", 0, D, 2))
        found = registry.due
        self.assertEqual(found, ["b", "c"])
        found.append("x")
        self.assertEqual(registry.due, ["b", "c"])
        registry.set_today(2)
        self.assertEqual(registry.due, ["a", "e"])
        registry.cancel("a")
        self.assertEqual(registry.due, ["e"])
        registry.record(("jump", 0, (1, "a", 3), D))
        self.assertEqual(registry.due, ["d", "e"])

    def test_due_follows_the_book(self):
        registry = self.kind(R, D)
        registry.add("rent", ("later", 3, 1))
        registry.set_today(4)
        self.assertEqual(registry.due, [])
        registry.record(J)
        self.assertEqual([registry.due, registry.date_today()], [["rent"], (3, "a", 2)])

    def test_no_day(self):
        registry = self.made(J)
        registry.set_today(5)
        for thing in NO_DAYS:
            self.check_refused(registry, NoDay, "day", thing, registry.set_today, thing)


class NoticesTest(RegistryTest):
    def check_step(self, registry, call, book):
        """Check that a call returns the notices between the days before and those of the new book."""
        before = {name: registry.day_of(name) for name in registry.names()}
        found = call()
        days = {name: contract_day(book, registry.contract_of(name)) for name in registry.names()}
        expected = [(name, before[name], days[name]) for name in sorted(days) if before[name] != days[name]]
        self.assertEqual(picture(found), picture(expected))
        self.assertEqual({name: registry.day_of(name) for name in registry.names()}, days)
        self.assertEqual(picture(registry.book()), picture(book))
        return expected

    def test_examples(self):
        registry = self.kind(R, D)
        registry.add("rent", ("later", 3, 1))
        found = [registry.record(S), registry.record(J), registry.record(J), registry.withdraw(J, S)]
        self.assertEqual(picture(found), picture([[], [("rent", 5, 4)], [], [("rent", 4, 5)]]))

    def test_nothing_recorded(self):
        registry = self.made(J)
        before = state(registry)
        for call in (registry.record, registry.withdraw, registry.merge):
            self.check_same(call, [], [])
        self.assertEqual(state(registry), before)

    def test_days_that_come_and_go(self):
        registry = self.kind(R, D)
        registry.add_all(b=("date", 0, (2, "a", 1), 1), a=("date", 0, (3, "a", 2), 2), c=("date", 0, (3, "a", 1), 1))
        self.assertEqual(registry.record(J), [("b", 5, None), ("c", 10, None)])
        self.assertEqual(registry.record(S), [("a", None, 11), ("c", None, 10)])
        self.assertEqual(registry.withdraw(J, S), [("a", 11, None), ("b", None, 5)])

    def test_many_steps(self):
        rand, sizes = random.Random(20), Counter()
        for book in books("steps", 60, most=12):
            dates = [decree[2] for decree in book.recorded] + [book.first_date, (2, "a", 1)]
            contracts = {name: some_contract(rand, dates, (0, 2, 5, 11, 10 ** 20)) for name in WORDS[::3]}
            registry = filled(self.kind, Book(book.first_rule, book.first_date), contracts)
            beginning = {name: registry.day_of(name) for name in registry.names()}
            mirror = Book(book.first_rule, book.first_date)
            notices = []
            for _ in range(6):
                chosen = rand.choices(book.recorded, k=rand.randint(0, 4)) if book.recorded else []
                word = rand.choice(("record", "record", "withdraw"))
                getattr(mirror, word)(*chosen)
                notices += self.check_step(registry, lambda: getattr(registry, word)(*chosen), mirror)
                sizes[len(notices)] += 1
                now = dict(beginning)
                for name, before, after in notices:
                    self.assertEqual(now[name], before)
                    now[name] = after
                self.assertEqual(now, {name: registry.day_of(name) for name in registry.names()})
        self.assertTrue(len(sizes) > 10, sizes)

    def test_merge_is_one_step(self):
        rand = random.Random(21)
        some = 0
        for book in books("merge", 40):
            others = []
            for _ in range(3):
                other = some_book(rand, most=6)
                others.append(Book(book.first_rule, book.first_date, *other.recorded, withdrawn=other.withdrawn))
            registry = filled(self.kind, book, dict(zip(WORDS, CONTRACTS)))
            pictures = picture(others)
            some += len(self.check_step(registry, lambda: registry.merge(*others), book.merged(*others))) > 0
            self.assertEqual(picture(others), pictures)
            self.assertEqual(registry.merge(*others, book), [])
        self.assertTrue(some > 10, some)

    def test_new_lists(self):
        registry = self.kind(R, D)
        registry.add("rent", ("later", 3, 1))
        found = registry.record(J)
        found.append(("x", 1, 2))
        again = registry.withdraw(J)
        self.assertEqual([again, registry.record(J)], [[("rent", 4, 5)], []])


class RefusedTest(RegistryTest):
    def test_no_rule_and_no_date(self):
        for thing in STRANGE + (R[0], list(R)):
            self.check_raises(NoRule, "rule", thing, self.kind, thing, thing)
            self.check_raises(NoRule, "rule", thing, self.kind, thing, D)
        for thing in STRANGE + ((1, "b", 3), (1, "c", 1), R):
            self.check_raises(NoDate, "date", thing, self.kind, R, thing)

    def test_no_decree(self):
        registry = self.made(J)
        for thing in NO_DECREES:
            for function in (registry.record, registry.withdraw):
                self.check_refused(registry, NoDecree, "decree", thing, function, thing)
                self.check_refused(registry, NoDecree, "decree", thing, function, S, thing, ["other"])
                self.check_refused(registry, NoDecree, "decree", thing, function, *MANY, thing)

    def test_too_many_decrees(self):
        registry = self.made(*MANY[:10])
        registry.withdraw(*MANY[10:29])
        for function in (registry.record, registry.withdraw):
            self.check_refused(registry, TooMany, "limit", 30, function, *MANY[:31])
            self.check_refused(registry, TooMany, "limit", 30, function, J, S)
        full = Book(R, D, *MANY[29:32])
        self.check_refused(registry, TooMany, "limit", 30, registry.merge, full)
        self.check_refused(registry, TooMany, "limit", 30, registry.merge, Book(R, D, J), Book(R, D, S))
        registry.merge(Book(R, D, J))
        self.assertEqual([registry.book().recorded, registry.record(J)], [[J, *MANY[:10]], []])

    def test_unlike(self):
        registry = self.made(J)
        unlike = (Book(R, (1, "a", 2), S), Book(L, D, S), Book(R + R, D), Book(R, (1, "a", 2), *MANY[:30]))
        for other in unlike:
            for others in ([other], [Book(R, D, S), other], [other, Book(R, D, *MANY[:30])]):
                before = state(registry)
                error = self.call(registry.merge, *others)
                self.assertIs(type(error), Unlike)
                self.assertEqual([vars(error), state(registry)], [{}, before])


class SharingTest(RegistryTest):
    def test_of_a_book(self):
        book = Book(R, D, J, S, N, E, withdrawn=[E, MANY[3]])
        registry = self.kind.of(book)
        self.assertIs(type(registry), self.kind)
        self.assertEqual([picture(registry.book()), len(registry), registry.today], [picture(book), 0, 0])
        registry.withdraw(J)
        book.record(MANY[0])
        self.assertEqual(picture(registry.book()), picture(Book(R, D, J, S, N, E, withdrawn=[J, E, MANY[3]])))
        self.assertEqual(picture(book), picture(Book(R, D, J, S, N, E, MANY[0], withdrawn=[E, MANY[3]])))

    def test_a_book_that_is_returned(self):
        registry = self.made(J)
        before = state(registry)
        book = registry.book()
        self.assertIs(type(book), Book)
        book.withdraw(J)
        book.record(S)
        self.assertEqual(state(registry), before)

    def test_merged_books_are_not_kept(self):
        registry = self.made()
        other = Book(R, D, J)
        registry.merge(other)
        other.withdraw(J)
        self.assertEqual(registry.book().standing, [J])

    def test_two_registries(self):
        one, other = self.made(J), self.made(J)
        before = state(other)
        one.set_today(4)
        one.cancel("rent")
        one.add("new", CONTRACTS[4])
        one.record(S)
        one.merge(Book(R, D, E))
        self.assertEqual(state(other), before)

    def test_equal_only_if_the_same(self):
        one, other = self.kind(R, D), self.kind(R, D)
        self.assertTrue(one == one and not one != one and one != other and not one == other)
        self.assertFalse(one == one.book() or one == 0 or one is None)

    def test_arguments_by_the_parameter_names(self):
        registry = self.kind(start=D, rule=R)
        self.assertEqual(registry.add(contract=("later", 3, 1), name="rent"), 5)
        self.assertEqual([registry.day_of(name="rent"), registry.contract_of(name="rent")], [5, ("later", 3, 1)])
        registry.set_today(day=5)
        self.assertEqual([registry.due, registry.cancel(name="rent")], [["rent"], ("later", 3, 1)])
        self.assertEqual(picture(self.kind.of(book=BOOK).book()), picture(BOOK))

    def test_the_order_of_the_calls_does_not_matter(self):
        calls = [("record", [J, S]), ("withdraw", [N]), ("record", [N, E]), ("withdraw", [S]),
                 ("merge", [Book(R, D, J)])]
        states = set()
        for order in itertools.permutations(calls):
            registry = self.made()
            for word, things in order:
                getattr(registry, word)(*things)
            states.add(state(registry))
        self.assertEqual(len(states), 1)


class JournalContractsTest(ContractsTest):
    kind = Journal


class JournalAddAllTest(AddAllTest):
    kind = Journal


class JournalTodayTest(TodayTest):
    kind = Journal


class JournalNoticesTest(NoticesTest):
    kind = Journal


class JournalRefusedTest(RefusedTest):
    kind = Journal


class JournalSharingTest(SharingTest):
    kind = Journal
