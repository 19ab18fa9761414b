"""The days on which two calendars give the same dates [17].

An agreement is a pair here: a list of spans of days, each with its first and last day, and a period. The calendars
agree on the days of the spans, and on those that are any number of periods before or behind. Without such days the
period is 0. No day belongs to two spans.
"""

from math import lcm

from decreedays.rules import count_days_of_years


def agreement_of(calendar, other):
    """Return the agreement of two calendars."""
    rule, number = calendar
    other_rule, other_number = other
    years = lcm(len(rule), len(other_rule))
    period = count_days_of_years(rule) * (years // len(rule))
    drift = period - count_days_of_years(other_rule) * (years // len(other_rule))
    months, other_months = months_of_years(rule, years), months_of_years(other_rule, years)
    spans = []
    for month in months:
        if month in other_months:
            (first, days), (other_first, other_days) = months[month], other_months[month]
            times = times_until_together((other_first - other_number) - (first - number), drift)
            if times is not None:
                begin = first - number + times * period
                spans.append((begin, begin + min(days, other_days) - 1))
    return (spans, period) if drift == 0 else (spans, 0)


def months_of_years(rule, years):
    """Return the number of the first date, and of the days, of each month of the years from 0 on, by year and name."""
    months = {}
    number = 0
    for year in range(years):
        for name, days in rule[year % len(rule)]:
            months[(year, name)] = (number, days)
            number += days
    return months


def times_until_together(lead, drift):
    """Return after how many periods, any integer, a drift in each makes up for a lead; None if it never does.

    The lead is the number of days by which one calendar is ahead of the other one in some month of the first years.
    """
    if drift == 0:
        return 0 if lead == 0 else None
    return lead // drift if lead % drift == 0 else None


def first_difference(agreement, first, last):
    """Return the first day, from one day to another one, on which calendars differ, or None.

    If there is no last day, it is None.
    """
    _, period = agreement
    end = last
    if period > 0 and (last is None or last - first >= period):
        # What does not differ within a period never differs.
        end = first + period - 1
    day = first
    for begin, stop in spans_between(agreement, first, end):
        if begin > day:
            break
        day = stop + 1
    return day if end is None or day <= end else None


def last_difference(agreement, first, last):
    """Return the last day, from one day to another one, on which calendars differ, or None."""
    _, period = agreement
    start = max(first, last - period + 1) if period > 0 else first
    day = last
    for begin, stop in reversed(spans_between(agreement, start, last)):
        if stop < day:
            break
        day = begin - 1
    return day if day >= start else None


def count_differences(agreement, first, last):
    """Return on how many days, from one day to another one, calendars differ."""
    spans, period = agreement
    days = last - first + 1
    times, rest = divmod(days, period) if period > 0 else (0, days)
    spans_of_rest = spans_between(agreement, first, first + rest - 1)
    return days - times * count_days_of_spans(spans) - count_days_of_spans(spans_of_rest)


def spans_between(agreement, first, last):
    """Return the sorted list of the spans of agreement, cut to the days from one day to another one.

    These are not more days than a period has. If there is no period, there need not be a last day.
    """
    spans, period = agreement
    if period > 0:
        lengths = [(begin, stop - begin) for begin, stop in spans]
        moved = [(first + (begin - first) % period, length) for begin, length in lengths]
        # A span may reach over the end of the period, so it may have begun before the first day.
        moved = moved + [(begin - period, length) for begin, length in moved]
        spans = [(begin, begin + length) for begin, length in moved]
    parts = [(max(begin, first), stop if last is None else min(stop, last)) for begin, stop in spans]
    return sorted([(begin, stop) for begin, stop in parts if begin <= stop])


def count_days_of_spans(spans):
    """Return how many days these spans have together."""
    return sum([stop - begin + 1 for begin, stop in spans])
