"""Which texts there are [22], told by patterns of words, for comparison."""

import re

from tests import reference

INTEGER = "0|-?[1-9][0-9]*"
MADE = "0|[1-9][0-9]*"
NAME = "[a-z]{1,8}"
DAY = "[1-9]|[1-5][0-9]|60"
MONTH = f"{NAME}:({DAY})"
DATE = [INTEGER, NAME, DAY]
HEADS = {
    "rule": ["rule", MADE, *DATE, *DATE],
    "jump": ["jump", MADE, *DATE, *DATE],
    "rename": ["rename", MADE, *DATE, NAME, NAME],
    "restore": ["restore", MADE, *DATE],
}


class Wrong(Exception):
    """The text is not one of its kind; the place is the first argument."""


def split(text):
    """Return the words."""
    if type(text) is not str:
        raise Wrong(-1)
    return text.split(" ") if text else []


def check(words, patterns, has_rule):
    """Check that the words have these patterns, with those of a rule behind them or nothing."""
    for place, word in enumerate(words):
        if place < len(patterns):
            pattern = patterns[place]
        elif not has_rule:
            raise Wrong(place)
        elif place == len(patterns) or words[place - 1] == "/":
            pattern = MONTH
        else:
            pattern = f"{MONTH}|/"
        if not re.fullmatch(pattern, word):
            raise Wrong(place)
    if len(words) < len(patterns) or has_rule and (len(words) == len(patterns) or words[-1] == "/"):
        raise Wrong(len(words))


def date(words):
    """Return the date of three words."""
    return (int(words[0]), words[1], int(words[2]))


def rule(words):
    """Return the months of the words, parted into years."""
    years = " ".join(words).split(" / ")
    return tuple(
        tuple((month.split(":")[0], int(month.split(":")[1])) for month in year.split(" ")) for year in years
    )


def read_date(text):
    """Return the date of a text."""
    words = split(text)
    check(words, DATE, False)
    return date(words)


def read_rule(text):
    """Return the rule of a text."""
    words = split(text)
    check(words, [], True)
    if not reference.rule(rule(words)):
        raise Wrong(len(words))
    return rule(words)


def read_decree(text):
    """Return the decree of a text."""
    words = split(text)
    kind = words[0] if words else ""
    if kind not in HEADS:
        raise Wrong(0)
    check(words, HEADS[kind], kind == "rule")
    thing = (kind, int(words[1]), date(words[2:5]))
    if kind == "rule":
        thing += (rule(words[8:]), date(words[5:8]))
    elif kind == "jump":
        thing += (date(words[5:8]),)
    else:
        thing += tuple(words[5:])
    if not reference.decree(thing):
        raise Wrong(len(words))
    return thing


def read_parts(parts):
    """Return the first date, the first rule and the entries of a book's parts, each of its form."""
    entries = []
    for place, part in enumerate(parts):
        try:
            if place == 0:
                check(split(part), DATE, True)
            else:
                word, text = re.fullmatch("(record|withdraw) (.*)", part).groups()
                entries.append((word, read_decree(text)))
        except (Wrong, AttributeError):
            raise Wrong(place) from None
    words = parts[0].split(" ")
    return date(words[:3]), rule(words[3:]), entries


def read_book(text):
    """Return the first date, the first rule, and the recorded and the withdrawn decrees of a book's text."""
    if type(text) is not str:
        raise Wrong(-1)
    parts = text.split("; ")
    start, first, entries = read_parts(parts)
    is_book = reference.rule(first) and reference.date_of(first, start)
    # The words `record` and `withdraw` stand in the order of the alphabet, too.
    is_book = is_book and all(one < other for one, other in zip(entries, entries[1:]))
    if not is_book or len({decree for word, decree in entries}) > 30:
        raise Wrong(len(parts))
    return (start, first, [decree for word, decree in entries if word == "record"],
            [decree for word, decree in entries if word == "withdraw"])
