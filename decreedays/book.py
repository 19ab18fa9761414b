"""Books of decrees [9]."""

from decreedays.decrees import is_decree
from decreedays.errors import NoDate, NoDecree, NoRule, NoText, TooMany, Unlike
from decreedays.rules import has_date
from decreedays.texts import read_beginning, read_decree, show_date, show_decree, show_rule


class Book:
    """A first rule, a first date, the recorded decrees and the withdrawn ones."""

    LIMIT = 30

    def __init__(self, rule, start, *recorded, withdrawn=()):
        if not has_date(rule, start):
            raise NoDate(start)
        check_decrees(recorded)
        check_decrees(withdrawn)
        check_number(recorded, withdrawn)
        self._rule = rule
        self._start = start
        # These sorted lists are replaced, never changed.
        self._recorded = sorted(set(recorded))
        self._withdrawn = sorted(set(withdrawn))

    @property
    def first_rule(self):
        """The first rule."""
        return self._rule

    @property
    def first_date(self):
        """The date of day 0."""
        return self._start

    @property
    def recorded(self):
        """The sorted list of the recorded decrees."""
        return list(self._recorded)

    @property
    def withdrawn(self):
        """The sorted list of the withdrawn decrees."""
        return list(self._withdrawn)

    @property
    def standing(self):
        """The sorted list of the decrees that are recorded and not withdrawn."""
        return sorted(set(self._recorded) - set(self._withdrawn))

    def __eq__(self, other):
        return (isinstance(other, Book) and self._rule == other._rule and self._start == other._start
                and self._recorded == other._recorded and self._withdrawn == other._withdrawn)

    def __len__(self):
        return len(self.standing)

    def __repr__(self):
        return f"Book({len(self.standing)} of {len(self._recorded)})"

    def __str__(self):
        return "; ".join(parts_of(self))

    def record(self, *decrees):
        """Record all these decrees. Return whether the set of the standing decrees changes."""
        check_decrees(decrees)
        recorded = sorted(set(self._recorded) | set(decrees))
        check_number(recorded, self._withdrawn)
        before = self.standing
        self._recorded = recorded
        return self.standing != before

    def withdraw(self, *decrees):
        """Withdraw all these decrees. Return whether the set of the standing decrees changes."""
        check_decrees(decrees)
        withdrawn = sorted(set(self._withdrawn) | set(decrees))
        check_number(self._recorded, withdrawn)
        before = self.standing
        self._withdrawn = withdrawn
        return self.standing != before

    def merged(self, *others):
        """Return a new book with all that is recorded, and all that is withdrawn, in this book or in another one."""
        if any([other.first_rule != self._rule or other.first_date != self._start for other in others]):
            raise Unlike()
        books = [self, *others]
        recorded = [decree for book in books for decree in book.recorded]
        withdrawn = [decree for book in books for decree in book.withdrawn]
        return Book(self._rule, self._start, *recorded, withdrawn=withdrawn)

    def copy(self):
        """Return an equal book."""
        return self.merged()

    @classmethod
    def read(cls, text):
        """Return the book whose text any value is."""
        if not isinstance(text, str):
            raise NoText(-1)
        parts = text.split("; ")
        start, rule = read_first_part(parts[0])
        entries = [read_entry(part, place) for place, part in enumerate(parts) if place > 0]
        recorded = [decree for word, decree in entries if word == "record"]
        withdrawn = [decree for word, decree in entries if word == "withdraw"]
        try:
            book = cls(rule, start, *recorded, withdrawn=withdrawn)
        except (NoRule, NoDate, TooMany):
            raise NoText(len(parts)) from None
        # Parts in another order, and a part that is there twice, make a text that no book has.
        if str(book) != text:
            raise NoText(len(parts))
        return book


def is_standing(book, thing):
    """Return whether any value is a standing decree of the book."""
    # True is no integer in a decree, although it is equal to 1.
    return is_decree(thing) and thing in book.standing


def check_decrees(things):
    """Raise NoDecree with the first of any values that is not a decree."""
    for thing in things:
        if not is_decree(thing):
            raise NoDecree(thing)


def check_number(recorded, withdrawn):
    """Raise TooMany if these are more distinct decrees than a book may have."""
    if len(set(recorded) | set(withdrawn)) > Book.LIMIT:
        raise TooMany(Book.LIMIT)


def parts_of(book):
    """Return the list of the parts of a book's text."""
    beginning = f"{show_date(book.first_date)} {show_rule(book.first_rule)}"
    recorded = [f"record {show_decree(decree)}" for decree in book.recorded]
    withdrawn = [f"withdraw {show_decree(decree)}" for decree in book.withdrawn]
    return [beginning, *recorded, *withdrawn]


def read_first_part(part):
    """Return the first date and the first rule that the first part of a book's text writes, by form."""
    try:
        return read_beginning(part)
    except NoText:
        raise NoText(0) from None


def read_entry(part, place):
    """Return the word `record` or `withdraw` and the decree that another part of a book's text writes."""
    word, _, rest = part.partition(" ")
    if word not in ("record", "withdraw"):
        raise NoText(place)
    try:
        return word, read_decree(rest)
    except NoText:
        raise NoText(place) from None
