"""Certificates of dates and of lost decrees [21]."""

from decreedays.course import date_on, events
from decreedays.days import fate


def date_certificate(book, day):
    """Return the certificate for the date of a day."""
    date = date_on(book, day)
    return ("date", day, date, [step for step in steps_of(book) if step[0] <= day])


def lost_certificate(book, decree):
    """Return the certificate for a standing decree that is lost, or None if it is not."""
    if fate(book, decree)[0] != "lost":
        return None
    return ("lost", decree, steps_of(book))


def steps_of(book):
    """Return the list of the steps of all events, in order."""
    return [(day, decree, is_effective) for day, decree, before, after, is_effective in events(book)]
