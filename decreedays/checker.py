"""Whether a value is a certificate of a book [21]."""

from decreedays.basics import is_day
from decreedays.book import is_standing
from decreedays.certificates import date_certificate, lost_certificate


def holds(book, thing):
    """Return whether any value is a certificate of the book."""
    if not isinstance(thing, tuple) or len(thing) < 2:
        return False
    kind, subject = thing[:2]
    # A book has one certificate at most for each day and for each decree.
    if kind == "date" and is_day(subject):
        return is_same(date_certificate(book, subject), thing)
    if kind == "lost" and is_standing(book, subject):
        return is_same(lost_certificate(book, subject), thing)
    return False


def is_same(one, other):
    """Return whether two values are equal and all their parts are of the same kinds."""
    if not is_same_kind(one, other):
        return False
    if isinstance(one, (tuple, list)):
        return len(one) == len(other) and all([is_same(part, another) for part, another in zip(one, other)])
    return one == other


def is_same_kind(one, other):
    """Return whether neither or both of two values are tuples, and likewise lists and booleans."""
    return (isinstance(one, tuple) == isinstance(other, tuple) and isinstance(one, list) == isinstance(other, list)
            and isinstance(one, bool) == isinstance(other, bool))
