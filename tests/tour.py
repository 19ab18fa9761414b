"""Runs and months as [15] and [16] tell them, gone through one by one or over whole rounds, for comparison."""

from collections import Counter

from tests.samples import next_date, round_days
from tests.simulation import advance, expected_reigns


def first_runs(book, dates):
    """Return the runs of the first days, which have these dates, but not the last one, which may go on."""
    firsts = [first for first, last, rule, start in expected_reigns(book)]
    found = []
    for day, date in enumerate(dates):
        if day in firsts or date[:2] != dates[day - 1][:2]:
            found.append((day, day, *date[:2]))
        found[-1] = (found[-1][0], day, *date[:2])
    return found[:-1]


def days_of_month(rule, date):
    """Return how many days the month of a date has."""
    return dict(rule[date[0] % len(rule)])[date[1]]


def tally(book, first, last):
    """Return how many runs have a day from the first to the last one, and how many days each name of a month has."""
    runs, names = 0, Counter()
    for begin, end, rule, start in expected_reigns(book):
        day, stop = max(begin, first), last if end is None else min(end, last)
        if day > stop:
            continue
        date = advance(rule, start, day - begin)
        runs += 1
        names[date[1]] += 1
        # On each later day begins another run, unless its date is not the first one of a month.
        rounds, rest = divmod(stop - day, round_days(rule))
        runs += rounds * sum(len(months) for months in rule)
        for months in rule:
            for name, days in months:
                names[name] += rounds * days
        for _ in range(rest):
            date = next_date(rule, date)
            runs += date[2] == 1
            names[date[1]] += 1
    return runs, names


def run_behind(book, day, many):
    """Return the run so many runs behind that of a day, as all its days with their dates."""
    reigns = [reign for reign in expected_reigns(book) if reign[1] is None or reign[1] >= day]
    for begin, end, rule, start in reigns:
        date = advance(rule, start, day - begin)
        months = sum(len(year) for year in rule)
        rounds = many // months
        if end is not None:
            rounds = max(0, min(rounds, (end - day) // round_days(rule) - 1))
        many -= rounds * months
        day += rounds * round_days(rule)
        date = (date[0] + rounds * len(rule), *date[1:])
        while many > 0 and (end is None or day <= end):
            day += days_of_month(rule, date) - date[2] + 1
            date = next_date(rule, (*date[:2], days_of_month(rule, date)))
            many -= 1
        if end is not None and day > end:
            # This step leads to the first run of the next stretch.
            day = end + 1
            continue
        # Back to the first day of the month, or of the stretch.
        first = max(begin, day - date[2] + 1)
        last = day + days_of_month(rule, date) - date[2]
        last = last if end is None else min(last, end)
        return [(other, (*date[:2], date[2] + other - day)) for other in range(first, last + 1)]
    raise AssertionError("the last stretch has no end")


def expected_later(book, day, months):
    """Return the day so many months after a day."""
    wanted = [date for other, date in run_behind(book, day, 0) if other == day][0][2]
    days = run_behind(book, day, months)
    fitting = [other for other, date in days if date[2] <= wanted]
    return fitting[-1] if fitting else days[0][0]


def expected_day(book, contract):
    """Return the day of a contract of the kind `later` or `month`."""
    kind, day, months = contract
    return expected_later(book, day, months) if kind == "later" else run_behind(book, day, months)[-1][0]
