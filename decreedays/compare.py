"""Two books: when they differ, and from when on they agree [17, 18]."""

from decreedays.agreement import agreement_of, count_differences, first_difference, last_difference
from decreedays.basics import is_day
from decreedays.book import is_standing
from decreedays.course import reign_on, reigns_of, spans_from
from decreedays.days import book_without
from decreedays.errors import NoDay, NoDecree


def parted(*books):
    """Return the first day on which two of the books differ, or None."""
    # Where any two books differ, one of them differs from the first book.
    days = [parted_from(books[0], book) for book in books[1:]]
    return min([day for day in days if day is not None], default=None)


def agree_from(*books):
    """Return the first day from which on each two of the books agree, or None."""
    days = [agree_with_from(books[0], book) for book in books[1:]]
    return None if None in days else max(days, default=0)


def differing(one, other, *, last):
    """Return on how many days from day 0 to the last one two books differ."""
    if not is_day(last):
        raise NoDay(last)
    many = 0
    for begin, end, calendars in shared_reigns(one, other):
        if begin <= last:
            stop = last if end is None else min(end, last)
            many += count_differences(agreement_of(*calendars), begin, stop)
    return many


def reach(book, decree):
    """Return the first day that a standing decree changes, and the first one from which on it changes none."""
    if not is_standing(book, decree):
        raise NoDecree(decree)
    other = book_without(book, decree)
    return (parted(book, other), agree_from(book, other))


def parted_from(one, other):
    """Return the first day on which two books differ, or None."""
    for begin, end, calendars in shared_reigns(one, other):
        day = first_difference(agreement_of(*calendars), begin, end)
        if day is not None:
            return day
    return None


def agree_with_from(one, other):
    """Return the first day from which on two books agree, or None."""
    for begin, end, calendars in reversed(shared_reigns(one, other)):
        agreement = agreement_of(*calendars)
        if end is None:
            # Two calendars that differ, and that are never replaced, differ again and again.
            if first_difference(agreement, begin, end) is not None:
                return None
        else:
            day = last_difference(agreement, begin, end)
            if day is not None:
                return day + 1
    return 0


def shared_reigns(one, other):
    """Return the spans of days in which both books keep their calendars, in order, without a gap.

    Each is a tuple of its first day, its last one or None, and the pair of the calendars.
    """
    reigns, others = reigns_of(one), reigns_of(other)
    firsts = sorted({first for first, last, calendar in reigns + others})
    return [(first, last, (reign_on(reigns, first)[2], reign_on(others, first)[2]))
            for first, last in spans_from(firsts)]
