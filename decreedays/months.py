"""Runs of days in the same month, and the days that are so many months later [15, 16]."""

from decreedays.basics import is_count, is_day, is_name
from decreedays.calendars import given_date, given_day
from decreedays.course import date_under, reigns_between, reigns_of
from decreedays.errors import NoCount, NoDay, NoName
from decreedays.rules import count_days_named, count_months_before, month_behind


def run_of(book, day):
    """Return the first and the last day of the run of a day."""
    if not is_day(day):
        raise NoDay(day)
    first, last, date = run_on(reigns_of(book), day)
    return (first, last)


def later(book, day, *, months=1):
    """Return the day that is so many months after a day."""
    if not is_day(day):
        raise NoDay(day)
    if not is_count(months):
        raise NoCount(months)
    return day_later(reigns_of(book), day, months)


def month_runs(book, *, since=0):
    """Yield each run from that of a day on, with its first day, last day, year and month, without an end."""
    if not is_day(since):
        raise NoDay(since)
    reigns = reigns_of(book)
    day = since
    while True:
        first, last, date = run_on(reigns, day)
        yield (first, last, date[0], date[1])
        day = last + 1


def count_runs(book, first, last):
    """Return how many runs have a day from the first to the last one."""
    check_span(first, last)
    parts = reigns_between(reigns_of(book), first, last)
    return sum([month_on(calendar, end) - month_on(calendar, begin) + 1 for begin, end, calendar in parts])


def count_days(book, month, first, last):
    """Return how many days from the first to the last one have a date in a month of this name."""
    if not is_name(month):
        raise NoName(month)
    check_span(first, last)
    parts = reigns_between(reigns_of(book), first, last)
    return sum([count_days_under(calendar, month, begin, end) for begin, end, calendar in parts])


def check_span(first, last):
    """Raise NoDay unless these are two days, the second one not below the first one."""
    if not is_day(first):
        raise NoDay(first)
    if not is_day(last) or last < first:
        raise NoDay(last)


def day_later(reigns, day, months):
    """Return the day that is so many months after a day."""
    first, last, date = run_behind(reigns, day, months)
    return min(last, first + max(0, date_under(reigns, day)[2] - date[2]))


def run_on(reigns, day):
    """Return the run of a day: its first day, its last day and the date of its first day."""
    return run_behind(reigns, day, 0)


def run_behind(reigns, day, many):
    """Return the run so many runs behind that of a day: its first day, its last day and the date of its first day."""
    reign, *others = [one for one in reigns if one[1] is None or one[1] >= day]
    number = month_on(reign[2], day) + many
    for other in others:
        passed = number - month_on(reign[2], reign[1])
        if passed <= 0:
            break
        reign = other
        # A stretch begins with a run of its own, even if its month is that of the day before.
        number = month_on(reign[2], reign[0]) + passed - 1
    return run_in(reign, number)


def run_in(reign, number):
    """Return the run in the month with this number of the calendar in force in a stretch."""
    begin, end, calendar = reign
    year, name, days = month_behind(calendar[0], number)
    month_begin = given_day(calendar, (year, name, 1))
    month_end = month_begin + days - 1
    first = max(begin, month_begin)
    last = month_end if end is None else min(month_end, end)
    return first, last, (year, name, 1 + first - month_begin)


def month_on(calendar, day):
    """Return the number of the month to whose days a calendar counts a day."""
    return count_months_before(calendar[0], given_date(calendar, day))


def count_days_under(calendar, month, first, last):
    """Return how many days from the first to the last one get a date in a month of this name from a calendar."""
    rule, number = calendar
    return count_days_named(rule, month, number + last + 1) - count_days_named(rule, month, number + first)
