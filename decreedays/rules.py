"""Rules, their dates and the numbers of these [4 to 7]."""

from decreedays.basics import is_int, is_name
from decreedays.errors import NoDate, NoRule

MOST_DAYS = 60
MOST_MONTHS = 13
MOST_YEARS = 20


def is_rule(thing):
    """Return whether any value is a rule."""
    if not isinstance(thing, tuple) or not 1 <= len(thing) <= MOST_YEARS:
        return False
    return all([is_year(year) for year in thing])


def is_year(thing):
    """Return whether any value is a year of a rule."""
    if not isinstance(thing, tuple) or not 1 <= len(thing) <= MOST_MONTHS:
        return False
    if not all([is_month(month) for month in thing]):
        return False
    return len({name for name, days in thing}) == len(thing)


def is_month(thing):
    """Return whether any value is a month of a year."""
    if not isinstance(thing, tuple) or len(thing) != 2:
        return False
    return is_name(thing[0]) and is_day_of_month(thing[1])


def is_day_of_month(thing):
    """Return whether any value may be a day of a month, or the last one."""
    return is_int(thing) and 1 <= thing <= MOST_DAYS


def is_date(thing):
    """Return whether any value is a date, of whatever rule."""
    if not isinstance(thing, tuple) or len(thing) != 3:
        return False
    return is_int(thing[0]) and is_name(thing[1]) and is_day_of_month(thing[2])


def has_date(rule, date):
    """Return whether any value is a date of the rule."""
    if not is_rule(rule):
        raise NoRule(rule)
    return is_date(date) and includes(rule, date)


def includes(rule, date):
    """Return whether a date, of whatever rule, is one of this rule."""
    year, month, day = date
    months = rule[year % len(rule)]
    return any([name == month and day <= days for name, days in months])


def number_of(rule, date):
    """Return the number of a date of the rule."""
    if not has_date(rule, date):
        raise NoDate(date)
    return count_days_before(rule, date)


def count_days_before(rule, date):
    """Return the number of a date that the rule includes."""
    year, month, day = date
    rounds, index = divmod(year, len(rule))
    months = rule[index]
    names = [name for name, days in months]
    days_before = count_days_of_years(rule[:index]) + count_days_of_months(months[:names.index(month)])
    return rounds * count_days_of_years(rule) + days_before + day - 1


def date_at(rule, number):
    """Return the date of the rule with this number."""
    if not is_rule(rule):
        raise NoRule(rule)
    return date_behind(rule, number)


def date_behind(rule, number):
    """Return the date that so many days come before, counted from the first day of year 0."""
    rounds, rest = divmod(number, count_days_of_years(rule))
    index, rest = find_part([count_days_of_months(months) for months in rule], rest)
    months = rule[index]
    place, rest = find_part([days for name, days in months], rest)
    return (rounds * len(rule) + index, months[place][0], rest + 1)


def count_months_before(rule, date):
    """Return how many months come before the month of a date, counted from the first month of year 0."""
    year, month, day = date
    rounds, index = divmod(year, len(rule))
    names = [name for name, days in rule[index]]
    return rounds * count_months_of_years(rule) + count_months_of_years(rule[:index]) + names.index(month)


def month_behind(rule, number):
    """Return the year, the name and the days of the month that so many months come before."""
    rounds, rest = divmod(number, count_months_of_years(rule))
    index, place = find_part([len(months) for months in rule], rest)
    name, days = rule[index][place]
    return (rounds * len(rule) + index, name, days)


def count_days_named(rule, name, number):
    """Return how many days of months of this name come before the date with a number, counted from year 0.

    For a negative number, this is minus the number of such days from this date up to year 0.
    """
    rounds, rest = divmod(number, count_days_of_years(rule))
    many = 0
    for months in rule:
        for other, days in months:
            if other == name:
                many += rounds * days + min(days, max(rest, 0))
            rest -= days
    return many


def least_rule(rule):
    """Return the equivalent rule with the fewest years in its round."""
    if not is_rule(rule):
        raise NoRule(rule)
    many = len(rule)
    # The least round fits into every equivalent one, so only divisors of the length come into question.
    lengths = [length for length in range(1, many + 1) if many % length == 0]
    return rule[:min([length for length in lengths if rule[:length] * (many // length) == rule])]


def count_days_of_months(months):
    """Return how many days these months have together."""
    return sum([days for name, days in months])


def count_days_of_years(years):
    """Return how many days these years have together."""
    return sum([count_days_of_months(months) for months in years])


def count_months_of_years(years):
    """Return how many months these years have together."""
    return sum([len(months) for months in years])


def find_part(lengths, rest):
    """Return the index of the part that comes after so many days or months, and how many of these are in it.

    The parts have these lengths, together more than the given number.
    """
    index = 0
    while rest >= lengths[index]:
        rest -= lengths[index]
        index += 1
    return index, rest
