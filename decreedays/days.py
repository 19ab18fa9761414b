"""The days of a date, what becomes of decrees, and which ones a day needs [13, 14]."""

from decreedays.basics import is_day
from decreedays.book import is_standing
from decreedays.calendars import given_day
from decreedays.course import coming_day, date_on, first_calendar, reigns_of, trace
from decreedays.errors import NoDate, NoDay, NoDecree
from decreedays.rules import is_date


def days_of(book, date):
    """Return the list of all days that have the date, in ascending order."""
    if not is_date(date):
        raise NoDate(date)
    return days_under(reigns_of(book), date)


def next_day(book, date, *, since=0):
    """Return the first day from a day on that has the date, or None."""
    days = days_of(book, date)
    if not is_day(since):
        raise NoDay(since)
    return min([day for day in days if day >= since], default=None)


def days_under(reigns, date):
    """Return the list of the days to which the calendars of these stretches give the date."""
    days = []
    for first, last, calendar in reigns:
        day = given_day(calendar, date)
        if day is not None and day >= first and (last is None or day <= last):
            days.append(day)
    return days


def fate(book, decree):
    """Return what becomes of a standing decree: effective or void, with its day, or lost, with the cause."""
    if not is_standing(book, decree):
        raise NoDecree(decree)
    course = trace(book)
    for event, stack in course:
        day, used, before, after, is_effective = event
        if used == decree:
            return ("effective" if is_effective else "void", day)
    return ("lost", cause_of_loss(course, decree, first_calendar(book)))


def cause_of_loss(course, decree, calendar):
    """Return the decree of the last event before which a lost decree was coming, or None.

    The calendar is the one in force at the beginning of the course.
    """
    cause = None
    for event, stack in course:
        if coming_day(decree, calendar, event[0]) is not None:
            cause = event[1]
        calendar = stack[-1]
    return cause


def needed(book, day):
    """Return the sorted list of the decrees without each of which the day would have another date."""
    date = date_on(book, day)
    return [decree for decree in book.standing if date_on(book_without(book, decree), day) != date]


def book_without(book, decree):
    """Return a new book in which a decree is withdrawn, too."""
    other = book.copy()
    other.withdraw(decree)
    return other
