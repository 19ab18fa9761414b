"""The course of events as [10] and [11] tell it, gone through day by day, for comparison."""

from decreedays.book import Book
from tests import reference
from tests.samples import next_date, round_days


def renamed(rule, old, new):
    """Return the rule with the new name for the old one, or None if the rename is void."""
    years = [dict(months) for months in rule]
    if not any(old in months for months in years) or any(old in months and new in months for months in years):
        return None
    return tuple(tuple((new, days) if name == old else (name, days) for name, days in months) for months in rule)


def put_on(rule, present, decree):
    """Return the rule and the date of today that a decree puts on top, or None if it is void."""
    if decree[0] == "rule":
        return decree[3:]
    if decree[0] == "jump":
        return (rule, decree[3]) if reference.date_of(rule, decree[3]) else None
    old, new = decree[3:]
    other = renamed(rule, old, new)
    year, month, day = present
    return (other, (year, new if month == old else month, day)) if other else None


def advance(rule, date, days):
    """Return the date so many days later: whole rounds at once, the others one by one."""
    rounds, rest = divmod(days, round_days(rule))
    date = (date[0] + rounds * len(rule), *date[1:])
    for _ in range(rest):
        date = next_date(rule, date)
    return date


class Walker:
    """Goes through the days of a book one by one, and notes what happens."""

    def __init__(self, book):
        self.day = 0
        self.unused = book.standing
        # Rules with a date that they give to some day, and this day.
        self.stack = [(book.first_rule, book.first_date, 0)]
        self.events = []
        # For each event the day, the decree, and the rule and the present date directly before.
        self.moments = []
        self.use_decrees()

    def present(self):
        """Return the date that the calendar in force gives to this day."""
        rule, date, day = self.stack[-1]
        date = advance(rule, date, self.day - day)
        self.stack[-1] = (rule, date, self.day)
        return date

    def now(self):
        """Return the stack on this day."""
        return [(rule, advance(rule, date, self.day - day)) for rule, date, day in self.stack]

    def use_decrees(self):
        """Use the decrees that take effect on this day, one after another."""
        while True:
            present = self.present()
            usable = [decree for decree in self.unused if decree[1] <= self.day and decree[2] == present]
            if not usable:
                return
            decree = sorted((decree[1], decree) for decree in usable)[-1][1]
            self.unused.remove(decree)
            self.moments.append((self.day, decree, self.stack[-1][0], present))
            is_effective = self.use(decree, present)
            self.events.append((self.day, decree, present, self.present(), is_effective))

    def use(self, decree, present):
        """Change the stack by a decree. Return whether there was anything to change."""
        if decree[0] == "restore":
            if len(self.stack) > 1:
                self.stack.pop()
                return True
            return False
        top = put_on(self.stack[-1][0], present, decree)
        if top is not None:
            self.stack.append((*top, self.day))
        return top is not None

    def step(self):
        """Go on to the next day."""
        self.day += 1
        self.use_decrees()

    def quiet_days(self):
        """Return how many days, in whole rounds, surely pass before a year that a decree waits for.

        None stands for all days: no decree waits for this year or a later one.
        """
        rule, (year, month, day) = self.stack[-1][0], self.present()
        ahead = [decree[2][0] for decree in self.unused if decree[2][0] >= year]
        if not ahead:
            return None
        return max(0, (min(ahead) - year) // len(rule) - 1) * round_days(rule)

    def go_to(self, last):
        """Go on to a day, over whole rounds at once where no decree waits for one of their years."""
        while self.day < last:
            quiet = self.quiet_days()
            if quiet is None:
                self.day = last
            elif quiet > 0:
                self.day += min(quiet, last - self.day)
            else:
                self.step()

    def go_to_the_end(self):
        """Go on until no decree can be used any more."""
        while (quiet := self.quiet_days()) is not None:
            if quiet > 0:
                self.day += quiet
            else:
                self.step()


def expected_stretches(happened):
    """Return the stretches that these events make."""
    firsts = sorted({0} | {event[0] for event in happened if event[4]})
    return [(first, behind - 1) for first, behind in zip(firsts, firsts[1:])] + [(firsts[-1], None)]


def days_until(rule, present, date):
    """Return how many days after the present date a calendar of the rule gives another date, or None."""
    if not reference.date_of(rule, date):
        return None
    rounds = max(0, (date[0] - present[0]) // len(rule) - 1)
    present = (present[0] + rounds * len(rule), *present[1:])
    days = rounds * round_days(rule)
    while present != date and present[0] <= date[0]:
        present = next_date(rule, present)
        days += 1
    return days if present == date else None


def expected_reigns(book):
    """Return the stretches with the rule in force in each, and the date of its first day."""
    walker = Walker(book)
    walker.go_to_the_end()
    found = []
    again = Walker(book)
    for first, last in expected_stretches(walker.events):
        again.go_to(first)
        found.append((first, last, again.stack[-1][0], again.present()))
    return found


def expected_days(book, date):
    """Return the days of a date."""
    found = []
    for first, last, rule, start in expected_reigns(book):
        days = days_until(rule, start, date)
        if days is not None and (last is None or first + days <= last):
            found.append(first + days)
    return found


def expected_fate(walker, decree):
    """Return what becomes of a decree, when all events have happened."""
    for event in walker.events:
        if event[1] == decree:
            return ("effective" if event[4] else "void", event[0])
    cause = None
    for day, used, rule, present in walker.moments:
        days = days_until(rule, present, decree[2])
        if days is not None and day + days >= decree[1]:
            cause = used
    return ("lost", cause)


def without(book, decree):
    """Return a book made anew without a decree."""
    standing = [other for other in book.standing if other != decree]
    return Book(book.first_rule, book.first_date, *standing)


def expected_date(book, day):
    """Return the date of a day."""
    walker = Walker(book)
    walker.go_to(day)
    return walker.present()


def first_dates(book, many):
    """Return the dates of the first days."""
    walker = Walker(book)
    dates = [walker.present()]
    while len(dates) < many:
        walker.step()
        dates.append(walker.present())
    return dates
