"""What a desk answers [23], told by patterns of words and by the registry and the functions, for comparison."""

import re

from decreedays.course import date_on, events
from decreedays.days import days_of
from decreedays.errors import NoBook, NoCommand
from decreedays.months import later
from decreedays.registry import Registry
from tests import reference, text_reference
from tests.text_reference import DATE, MADE, NAME, Wrong

POSITIVE = "[1-9][0-9]*"
FORMS = {
    "date": [MADE], "days": DATE, "events": [], "later": [MADE, MADE], "standing": [], "drop": [NAME], "day": [NAME],
    "names": [], "today": [MADE], "due": [], "add date": [NAME, "date", MADE, *DATE, POSITIVE],
    "add later": [NAME, "later", MADE, MADE], "add month": [NAME, "month", MADE, MADE],
}


def read(command):
    """Return the first word of a command, and the values of the others."""
    words = text_reference.split(command)
    if not words or "" in words:
        raise Wrong("words")
    word, *rest = words
    if word in ("record", "withdraw"):
        return word, [text_reference.read_decree(" ".join(rest))]
    if word == "found":
        start, rule = text_reference.read_date(" ".join(rest[:3])), text_reference.read_rule(" ".join(rest[3:]))
        if not reference.date_of(rule, start):
            raise Wrong("start")
        return word, [rule, start]
    patterns = FORMS.get(f"add {rest[1]}" if word == "add" and len(rest) > 1 else word)
    if patterns is None or len(patterns) != len(rest):
        raise Wrong("number")
    if not all(re.fullmatch(pattern, part) for pattern, part in zip(patterns, rest)):
        raise Wrong("form")
    return word, values(word, rest)


def values(word, rest):
    """Return the values of the words behind the first one."""
    if word == "days":
        return [text_reference.date(rest)]
    if word == "add" and rest[1] == "date":
        return [rest[0], ("date", int(rest[2]), text_reference.date(rest[3:6]), int(rest[6]))]
    if word == "add":
        return [rest[0], (rest[1], int(rest[2]), int(rest[3]))]
    return rest if word in ("drop", "day") else [int(part) for part in rest]


def text_of_day(day):
    """Return the text of a day or None."""
    return "none" if day is None else str(day)


def text_of_date(date):
    """Return the text of a date."""
    return " ".join(str(part) for part in date)


def text_of_decree(decree):
    """Return the text of a decree."""
    head = f"{decree[0]} {decree[1]} {text_of_date(decree[2])}"
    if decree[0] == "rule":
        years = [" ".join(f"{name}:{days}" for name, days in months) for months in decree[3]]
        return f"{head} {text_of_date(decree[4])} {' / '.join(years)}"
    if decree[0] == "jump":
        return f"{head} {text_of_date(decree[3])}"
    return " ".join([head, *decree[3:]])


def text_of_notices(notices):
    """Return the text of a list of notices."""
    return "; ".join(f"{name} {text_of_day(one)} {text_of_day(two)}" for name, one, two in notices) or "-"


def text_of_events(found):
    """Return the text of a list of events."""
    parts = [f"{event[0]} {'effective' if event[4] else 'void'} {text_of_decree(event[1])}" for event in found]
    return "; ".join(parts) or "-"


ANSWERS = {
    "record": lambda registry, decree: text_of_notices(registry.record(decree)),
    "withdraw": lambda registry, decree: text_of_notices(registry.withdraw(decree)),
    "date": lambda registry, day: text_of_date(date_on(registry.book(), day)),
    "days": lambda registry, date: " ".join(str(day) for day in days_of(registry.book(), date)) or "-",
    "events": lambda registry: text_of_events(events(registry.book())),
    "later": lambda registry, day, months: str(later(registry.book(), day, months=months)),
    "standing": lambda registry: "; ".join(text_of_decree(one) for one in registry.book().standing) or "-",
    "add": lambda registry, name, contract: text_of_day(registry.add(name, contract)),
    "drop": lambda registry, name: "ok" if registry.cancel(name) else "never",
    "day": lambda registry, name: text_of_day(registry.day_of(name)),
    "names": lambda registry: " ".join(registry.names()) or "-",
    "today": lambda registry, day: "ok" if registry.set_today(day) is None else "never",
    "due": lambda registry: " ".join(registry.due) or "-",
}


class Mirror:
    """Answers as a desk does, or raises the error that a desk raises."""

    def __init__(self):
        self.registry = None

    def say(self, command):
        """Return the answer."""
        try:
            word, found = read(command)
        except Wrong:
            raise NoCommand() from None
        if word == "found":
            self.registry = Registry(*found)
            return "ok"
        if self.registry is None:
            raise NoBook()
        return ANSWERS[word](self.registry, *found)
