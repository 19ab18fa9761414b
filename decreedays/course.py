"""The course: events, and the dates, stacks and stretches that follow from them [10 to 12]."""

from decreedays.basics import is_day
from decreedays.calendars import calendar_at, given_date, given_day, stack_behind
from decreedays.errors import NoDay


def events(book):
    """Return the list of all events, in order: the day, the decree, the dates before and after, is it effective."""
    return [event for event, stack in trace(book)]


def date_on(book, day):
    """Return the date of a day."""
    if not is_day(day):
        raise NoDay(day)
    return date_under(reigns_of(book), day)


def stack_on(book, day):
    """Return the stack at the end of a day, each calendar as its rule and the date that it gives to this day."""
    if not is_day(day):
        raise NoDay(day)
    stacks = [stack for event, stack in trace(book) if event[0] <= day]
    calendars = stacks[-1] if len(stacks) > 0 else [first_calendar(book)]
    return [(calendar[0], given_date(calendar, day)) for calendar in calendars]


def stretches(book):
    """Return the list of all stretches, each as its first day and its last one, or None for the last stretch."""
    return [(first, last) for first, last, calendar in reigns_of(book)]


def walk(book, *, since=0):
    """Yield each day from a day on, together with its date, without an end."""
    if not is_day(since):
        raise NoDay(since)
    reigns = reigns_of(book)
    day = since
    while True:
        yield (day, date_under(reigns, day))
        day += 1


def reigns_of(book):
    """Return for each stretch, in order, its first day, its last one or None, and the calendar in force in it."""
    calendars = {0: first_calendar(book)}
    for event, stack in trace(book):
        is_effective = event[4]
        if is_effective:
            calendars[event[0]] = stack[-1]
    return [(first, last, calendars[first]) for first, last in spans_from(list(calendars))]


def spans_from(firsts):
    """Return the spans of days from each of these days up to the day before the next one; the last one has no end."""
    lasts = [first - 1 for first in firsts[1:]] + [None]
    return list(zip(firsts, lasts))


def reign_on(reigns, day):
    """Return the first and last day of the stretch that has a day, and its calendar."""
    return [reign for reign in reigns if reign[0] <= day][-1]


def date_under(reigns, day):
    """Return the date of a day."""
    return given_date(reign_on(reigns, day)[2], day)


def reigns_between(reigns, first, last):
    """Return the parts of the reigns from a day to another one, each with its first day, last day and calendar."""
    parts = []
    for begin, end, calendar in reigns:
        start = max(begin, first)
        stop = last if end is None else min(end, last)
        if start <= stop:
            parts.append((start, stop, calendar))
    return parts


def trace(book):
    """Return the list of all events, in order, each together with the stack behind it."""
    stack = [first_calendar(book)]
    waiting = book.standing
    found = []
    use = next_use(waiting, stack[-1], 0)
    while use is not None:
        day, decree = use
        changed = stack_behind(stack, decree, day)
        before = given_date(stack[-1], day)
        stack = changed if changed is not None else stack
        found.append(((day, decree, before, given_date(stack[-1], day), changed is not None), stack))
        waiting = [other for other in waiting if other != decree]
        use = next_use(waiting, stack[-1], day)
    return found


def first_calendar(book):
    """Return the calendar that is in force at the beginning."""
    return calendar_at(book.first_rule, book.first_date, 0)


def next_use(decrees, calendar, day):
    """Return the day and the decree of the first event from a day on, or None if no decree is coming.

    Nothing else changes the calendar before, so going there day by day is not needed.
    """
    uses = [(coming_day(decree, calendar, day), decree) for decree in decrees]
    days = [when for when, decree in uses if when is not None]
    if len(days) == 0:
        return None
    first = min(days)
    return first, max([(decree[1], decree) for when, decree in uses if when == first])[1]


def coming_day(decree, calendar, day):
    """Return the day, from a day on, on which a decree is used if the calendar continues alone, or None."""
    made, date = decree[1:3]
    when = given_day(calendar, date)
    if when is None or when < day or when < made:
        return None
    return when
