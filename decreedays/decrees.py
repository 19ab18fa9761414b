"""Decrees [8]."""

from decreedays.basics import is_day, is_name
from decreedays.rules import has_date, is_date, is_rule


def is_decree(thing):
    """Return whether any value is a decree."""
    if not isinstance(thing, tuple) or len(thing) < 3:
        return False
    kind, made, date, *rest = thing
    if not is_day(made) or not is_date(date):
        return False
    if kind == "rule":
        return len(rest) == 2 and is_rule(rest[0]) and has_date(rest[0], rest[1])
    if kind == "jump":
        return len(rest) == 1 and is_date(rest[0])
    if kind == "rename":
        return len(rest) == 2 and is_name(rest[0]) and is_name(rest[1]) and rest[0] != rest[1]
    return kind == "restore" and len(rest) == 0
