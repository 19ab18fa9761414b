"""Contracts, and the days that a book gives them [19]."""

from decreedays.basics import is_count, is_day
from decreedays.days import days_under
from decreedays.months import day_later, run_behind
from decreedays.rules import is_date


def is_contract(thing):
    """Return whether any value is a contract."""
    if not isinstance(thing, tuple) or len(thing) < 3 or not is_day(thing[1]):
        return False
    if thing[0] == "date":
        return len(thing) == 4 and is_date(thing[2]) and is_count(thing[3]) and thing[3] > 0
    return thing[0] in ("later", "month") and len(thing) == 3 and is_count(thing[2])


def day_of_contract(reigns, contract):
    """Return the day of a contract, or None if it has none."""
    kind = contract[0]
    if kind == "date":
        since, date, count = contract[1:]
        days = [day for day in days_under(reigns, date) if day >= since]
        return days[count - 1] if count <= len(days) else None
    day, months = contract[1:]
    if kind == "later":
        return day_later(reigns, day, months)
    first, last, date = run_behind(reigns, day, months)
    return last
