"""Calendars, and what a decree puts on top of a stack of them [10, 11].

A calendar is a pair here: its rule, and the number of the date that it gives to day 0.
"""

from decreedays.rules import count_days_before, date_behind, includes


def calendar_at(rule, date, day):
    """Return the calendar with a rule that gives a date to a day, or None if it is not a date of the rule."""
    if not includes(rule, date):
        return None
    return (rule, count_days_before(rule, date) - day)


def given_date(calendar, day):
    """Return the date that a calendar gives to a day."""
    rule, number = calendar
    return date_behind(rule, number + day)


def given_day(calendar, date):
    """Return the day, perhaps below 0, to which a calendar gives a date, or None if its rule has no such date."""
    rule, number = calendar
    if not includes(rule, date):
        return None
    return count_days_before(rule, date) - number


def stack_behind(stack, decree, day):
    """Return the stack behind the use of a decree on a day, or None if the event is void."""
    if decree[0] == "restore":
        return stack[:-1] if len(stack) > 1 else None
    calendar = calendar_behind(stack[-1], decree, day)
    return stack + [calendar] if calendar is not None else None


def calendar_behind(calendar, decree, day):
    """Return the calendar that a decree of another kind puts on top of this one, or None if the event is void."""
    rule, number = calendar
    kind = decree[0]
    if kind == "rule":
        return calendar_at(decree[3], decree[4], day)
    if kind == "jump":
        return calendar_at(rule, decree[3], day)
    old, new = decree[3:]
    if not is_renamable(rule, old, new):
        return None
    # A month that is renamed has as many days as before, so the numbers of the dates stay.
    return (renamed(rule, old, new), number)


def is_renamable(rule, old, new):
    """Return whether some year has a month of the old name, and no year months of both names."""
    years = [[name for name, days in months] for months in rule]
    years_with_old = [names for names in years if old in names]
    return len(years_with_old) > 0 and not any([new in names for names in years_with_old])


def renamed(rule, old, new):
    """Return the rule with the new name of a month in place of the old one in all years."""
    return tuple([tuple([(new if name == old else name, days) for name, days in months]) for months in rule])
