"""The desk, which takes commands and returns their answers as texts [23]."""

from decreedays.commands import read_command
from decreedays.course import date_on, events
from decreedays.days import days_of
from decreedays.errors import NoBook
from decreedays.months import later
from decreedays.registry import Registry
from decreedays.texts import show_date, show_decree
from decreedays.words import write_integer


class Desk:
    """A registry or none, and answers to commands about it."""

    def __init__(self):
        self._registry = None

    def say(self, command):
        """Do what a command, any value, says. Return the answer."""
        word, values = read_command(command)
        if word == "found":
            self._registry = Registry(*values)
            return "ok"
        if self._registry is None:
            raise NoBook()
        answer = ANSWERS[word]
        return answer(self._registry, *values)


def answer_record(registry, decree):
    """Record a decree. Return the notices."""
    return show_notices(registry.record(decree))


def answer_withdraw(registry, decree):
    """Withdraw a decree. Return the notices."""
    return show_notices(registry.withdraw(decree))


def answer_date(registry, day):
    """Return the date of a day."""
    return show_date(date_on(registry.book(), day))


def answer_days(registry, date):
    """Return the days of a date."""
    return join_words([write_integer(day) for day in days_of(registry.book(), date)])


def answer_events(registry):
    """Return all events."""
    parts = []
    for day, decree, before, after, is_effective in events(registry.book()):
        word = "effective" if is_effective else "void"
        parts.append(f"{write_integer(day)} {word} {show_decree(decree)}")
    return join_parts(parts)


def answer_later(registry, day, months):
    """Return the day so many months later."""
    return write_integer(later(registry.book(), day, months=months))


def answer_standing(registry):
    """Return the standing decrees."""
    return join_parts([show_decree(decree) for decree in registry.book().standing])


def answer_add(registry, name, contract):
    """Add a contract. Return its day."""
    return show_day(registry.add(name, contract))


def answer_drop(registry, name):
    """Remove a contract."""
    registry.cancel(name)
    return "ok"


def answer_day(registry, name):
    """Return the day of a contract."""
    return show_day(registry.day_of(name))


def answer_names(registry):
    """Return the names of the contracts."""
    return join_words(registry.names())


def answer_today(registry, day):
    """Make a day today."""
    registry.set_today(day)
    return "ok"


def answer_due(registry):
    """Return the names of the contracts that are due."""
    return join_words(registry.due)


ANSWERS = {
    "record": answer_record,
    "withdraw": answer_withdraw,
    "date": answer_date,
    "days": answer_days,
    "events": answer_events,
    "later": answer_later,
    "standing": answer_standing,
    "add": answer_add,
    "drop": answer_drop,
    "day": answer_day,
    "names": answer_names,
    "today": answer_today,
    "due": answer_due,
}


def show_notices(notices):
    """Return the text of a list of notices."""
    return join_parts([f"{name} {show_day(before)} {show_day(after)}" for name, before, after in notices])


def show_day(day):
    """Return the text of a day or None."""
    return write_integer(day) if day is not None else "none"


def join_words(words):
    """Return the words with spaces between them, or a dash if there are none."""
    return " ".join(words) or "-"


def join_parts(parts):
    """Return the parts, each of several words, as one text, or a dash if there are none."""
    return "; ".join(parts) or "-"
