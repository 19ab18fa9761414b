"""Registries of contracts, and journals of their notices [19, 20]."""

from decreedays.basics import is_day, is_name
from decreedays.book import Book
from decreedays.contracts import day_of_contract, is_contract
from decreedays.course import date_on, reigns_of
from decreedays.errors import NoContract, NoDay, NoName, Taken, TooMany, Unknown


class Registry:
    """A book, a day that is today, and contracts under names."""

    LIMIT = 40

    def __init__(self, rule, start):
        self._book = Book(rule, start)
        self._today = 0
        self._contracts = {}
        self._days = {}

    @classmethod
    def of(cls, book):
        """Return a registry with a copy of a book."""
        return with_book(cls(book.first_rule, book.first_date), book)

    def __len__(self):
        return len(self._contracts)

    @property
    def today(self):
        """The day that is today."""
        return self._today

    @property
    def due(self):
        """The ascending list of the names of the contracts whose day is today."""
        return sorted([name for name in self._days if self._days[name] == self._today])

    def set_today(self, day):
        """Make a day today."""
        if not is_day(day):
            raise NoDay(day)
        self._today = day

    def date_today(self):
        """Return the date of today."""
        return date_on(self._book, self._today)

    def add(self, name, contract):
        """Add a contract under a name. Return its day."""
        check_addition(self._contracts, name, contract)
        day = day_of_contract(reigns_of(self._book), contract)
        self._contracts[name] = contract
        self._days[name] = day
        return day

    def add_all(self, **contracts):
        """Add all these contracts under their keywords, or none. Return the list of their days, sorted by keywords."""
        names = sorted(contracts)
        kept = dict(self._contracts)
        for name in names:
            check_addition(kept, name, contracts[name])
            kept[name] = contracts[name]
        return [self.add(name, contracts[name]) for name in names]

    def cancel(self, name):
        """Remove the contract under a name, and return it."""
        contract = self.contract_of(name)
        del self._contracts[name]
        del self._days[name]
        return contract

    def day_of(self, name):
        """Return the day of the contract under a name, or None."""
        check_known(self._contracts, name)
        return self._days[name]

    def contract_of(self, name):
        """Return the contract under a name."""
        check_known(self._contracts, name)
        return self._contracts[name]

    def names(self):
        """Return the ascending list of the names of the contracts."""
        return sorted(self._contracts)

    def record(self, *decrees):
        """Record all these decrees. Return the list of the notices."""
        self._book.record(*decrees)
        return self._follow()

    def withdraw(self, *decrees):
        """Withdraw all these decrees. Return the list of the notices."""
        self._book.withdraw(*decrees)
        return self._follow()

    def merge(self, *books):
        """Record and withdraw all that is recorded and withdrawn in these books. Return the list of the notices."""
        self._book = self._book.merged(*books)
        return self._follow()

    def book(self):
        """Return a copy of the book."""
        return self._book.copy()

    def _follow(self):
        """Keep the days that the book gives the contracts now. Return the list of the notices."""
        reigns = reigns_of(self._book)
        before = self._days
        self._days = {name: day_of_contract(reigns, self._contracts[name]) for name in self._contracts}
        return [(name, before[name], self._days[name]) for name in sorted(before) if before[name] != self._days[name]]


class Journal(Registry):
    """A registry that keeps the lists of the notices."""

    def __init__(self, rule, start):
        super().__init__(rule, start)
        self._entries = []

    @classmethod
    def of(cls, book):
        """Return a journal with a copy of a book."""
        return with_book(cls(book.first_rule, book.first_date), book)

    @property
    def entries(self):
        """The list of the days that were today and the notices of all steps, in order."""
        return [(today, list(notices)) for today, notices in self._entries]

    def total(self):
        """Return the notices of all entries together, as one step."""
        firsts = {}
        lasts = {}
        for _, notices in self._entries:
            for name, before, after in notices:
                firsts.setdefault(name, before)
                lasts[name] = after
        return [(name, firsts[name], lasts[name]) for name in sorted(firsts) if firsts[name] != lasts[name]]

    def record(self, *decrees):
        """Record all these decrees. Return the list of the notices."""
        return self._keep(super().record(*decrees))

    def withdraw(self, *decrees):
        """Withdraw all these decrees. Return the list of the notices."""
        return self._keep(super().withdraw(*decrees))

    def merge(self, *books):
        """Record and withdraw all that is recorded and withdrawn in these books. Return the list of the notices."""
        return self._keep(super().merge(*books))

    def _keep(self, notices):
        """Keep the notices of a step, and return them."""
        self._entries.append((self._today, list(notices)))
        return notices


def with_book(registry, book):
    """Return a new registry, whose book is now a copy of a book."""
    registry._book = book.copy()
    return registry


def check_addition(contracts, name, contract):
    """Raise an error unless any value can be added under a name, any value, to these contracts under their names."""
    if not is_name(name):
        raise NoName(name)
    if name in contracts:
        raise Taken(name)
    if not is_contract(contract):
        raise NoContract(contract)
    if len(contracts) >= Registry.LIMIT:
        raise TooMany(Registry.LIMIT)


def check_known(contracts, name):
    """Raise Unknown unless there is a contract under a name, any value."""
    # What is no name may be a list, which no dict can look for.
    if not is_name(name) or name not in contracts:
        raise Unknown(name)
