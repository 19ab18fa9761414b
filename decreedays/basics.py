"""Integers, days and names [2]."""

LONGEST_NAME = 8


def is_int(thing):
    """Return whether any value is an integer."""
    return isinstance(thing, int) and not isinstance(thing, bool)


def is_day(thing):
    """Return whether any value is a day."""
    return is_int(thing) and thing >= 0


def is_count(thing):
    """Return whether any value is an integer from 0, such as a number of months."""
    return is_int(thing) and thing >= 0


def is_name(thing):
    """Return whether any value is a name."""
    if not isinstance(thing, str) or len(thing) > LONGEST_NAME:
        return False
    return thing.isascii() and thing.isalpha() and thing.islower()
