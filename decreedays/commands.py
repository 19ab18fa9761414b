"""The commands of a desk, and the values that their words write [22, 23]."""

from decreedays.basics import is_name
from decreedays.contracts import is_contract
from decreedays.errors import NoCommand, NoText
from decreedays.rules import has_date
from decreedays.texts import read_date, read_decree, read_rule
from decreedays.words import is_count_word, read_integer


def read_command(command):
    """Return the first word of a command, any value, and the list of the values that the other words write."""
    if not isinstance(command, str):
        raise NoCommand()
    word, *words = command.split(" ")
    if word not in READERS or "" in words:
        raise NoCommand()
    reader = READERS[word]
    try:
        return word, reader(words)
    except NoText:
        raise NoCommand() from None


def read_nothing(words):
    """Return the empty list for no words."""
    return read_numbers(words, 0)


def read_day(words):
    """Return the day that one word writes."""
    return read_numbers(words, 1)


def read_day_and_months(words):
    """Return the day and the number of months that two words write."""
    return read_numbers(words, 2)


def read_numbers(words, many):
    """Return the integers from 0 that so many words write."""
    if len(words) != many or not all([is_count_word(word) for word in words]):
        raise NoCommand()
    return [read_integer(word) for word in words]


def read_name(words):
    """Return the name that is the only word."""
    if len(words) != 1 or not is_name(words[0]):
        raise NoCommand()
    return words


def read_only_date(words):
    """Return the date that the words write."""
    return [read_date(" ".join(words))]


def read_only_decree(words):
    """Return the decree that the words write."""
    return [read_decree(" ".join(words))]


def read_beginning_words(words):
    """Return the first rule and the first date that the words write."""
    start, rule = read_date(" ".join(words[:3])), read_rule(" ".join(words[3:]))
    if not has_date(rule, start):
        raise NoCommand()
    return [rule, start]


def read_addition(words):
    """Return the name and the contract that the words write."""
    if len(words) < 2:
        raise NoCommand()
    name, kind, *rest = words
    if kind == "date":
        since, count = read_numbers(rest[:1] + rest[4:], 2)
        contract = (kind, since, read_date(" ".join(rest[1:4])), count)
    else:
        day, months = read_numbers(rest, 2)
        contract = (kind, day, months)
    # The kind may be another one, and the count 0.
    if not is_name(name) or not is_contract(contract):
        raise NoCommand()
    return [name, contract]


READERS = {
    "found": read_beginning_words,
    "record": read_only_decree,
    "withdraw": read_only_decree,
    "date": read_day,
    "days": read_only_date,
    "events": read_nothing,
    "later": read_day_and_months,
    "standing": read_nothing,
    "add": read_addition,
    "drop": read_name,
    "day": read_name,
    "names": read_nothing,
    "today": read_day,
    "due": read_nothing,
}
