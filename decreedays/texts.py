"""The texts of rules, dates and decrees, and how they are read back [22]."""

from decreedays.decrees import is_decree
from decreedays.errors import NoDate, NoDecree, NoRule, NoText
from decreedays.rules import is_date, is_rule
from decreedays.words import has_form, is_month_word, read_integer, write_integer

DATE_FORMS = ("year", "name", "day")
# The words of a decree behind its kind; the text of a rule follows those of the kind "rule".
DECREE_FORMS = {
    "rule": ("made", "year", "name", "day", "year", "name", "day"),
    "jump": ("made", "year", "name", "day", "year", "name", "day"),
    "rename": ("made", "year", "name", "day", "name", "name"),
    "restore": ("made", "year", "name", "day"),
}


def show_rule(rule):
    """Return the text of a rule."""
    if not is_rule(rule):
        raise NoRule(rule)
    years = [" ".join([f"{name}:{days}" for name, days in months]) for months in rule]
    return " / ".join(years)


def show_date(date):
    """Return the text of a date."""
    if not is_date(date):
        raise NoDate(date)
    year, month, day = date
    return f"{write_integer(year)} {month} {day}"


def show_decree(decree):
    """Return the text of a decree."""
    if not is_decree(decree):
        raise NoDecree(decree)
    kind, made, date, *rest = decree
    head = f"{kind} {write_integer(made)} {show_date(date)}"
    if kind == "rule":
        return f"{head} {show_date(rest[1])} {show_rule(rest[0])}"
    if kind == "jump":
        return f"{head} {show_date(rest[0])}"
    return " ".join([head, *rest])


def read_rule(text):
    """Return the rule that any value, a text, writes."""
    words = words_of(text)
    check_rule_words(words, 0)
    rule = make_rule(words)
    if not is_rule(rule):
        raise NoText(len(words))
    return rule


def read_date(text):
    """Return the date that any value, a text, writes."""
    words = words_of(text)
    check_words(words, 0, DATE_FORMS)
    check_end(words, len(DATE_FORMS))
    return make_date(words)


def read_decree(text):
    """Return the decree that any value, a text, writes."""
    words = words_of(text)
    if not words or words[0] not in DECREE_FORMS:
        raise NoText(0)
    forms = DECREE_FORMS[words[0]]
    check_words(words, 1, forms)
    if words[0] == "rule":
        check_rule_words(words, 1 + len(forms))
    else:
        check_end(words, 1 + len(forms))
    decree = make_decree(words)
    if not is_decree(decree):
        raise NoText(len(words))
    return decree


def read_beginning(text):
    """Return the first date and the first rule that the first part of a book's text writes.

    Only the form of each word is checked: what is returned need not be a rule and a date of it.
    """
    words = words_of(text)
    check_words(words, 0, DATE_FORMS)
    check_rule_words(words, len(DATE_FORMS))
    return make_date(words), make_rule(words[len(DATE_FORMS):])


def words_of(text):
    """Return the words of a text. The empty one has none."""
    if not isinstance(text, str):
        raise NoText(-1)
    return text.split(" ") if text != "" else []


def check_words(words, at, forms):
    """Raise NoText unless there are words of these forms, in their order, from this place on."""
    for place, form in enumerate(forms, start=at):
        if place >= len(words) or not has_form(words[place], form):
            raise NoText(place)


def check_end(words, at):
    """Raise NoText if there is a word at this place."""
    if len(words) > at:
        raise NoText(at)


def check_rule_words(words, at):
    """Raise NoText unless the words from this place on are months, and "/" only between two of them."""
    is_month_next = True
    for place in range(at, len(words)):
        if words[place] == "/" and not is_month_next:
            is_month_next = True
        elif is_month_word(words[place]):
            is_month_next = False
        else:
            raise NoText(place)
    if is_month_next:
        raise NoText(len(words))


def make_date(words):
    """Return the date that the first three words write."""
    year, month, day = words[:3]
    return (read_integer(year), month, int(day))


def make_rule(words):
    """Return what the words of a rule write, a rule or not."""
    years = [[]]
    for word in words:
        if word == "/":
            years.append([])
        else:
            name, _, days = word.partition(":")
            years[-1].append((name, int(days)))
    return tuple([tuple(months) for months in years])


def make_decree(words):
    """Return what the words of a decree write, a decree or not."""
    kind = words[0]
    made = read_integer(words[1])
    date = make_date(words[2:])
    if kind == "rule":
        return (kind, made, date, make_rule(words[8:]), make_date(words[5:]))
    if kind == "jump":
        return (kind, made, date, make_date(words[5:]))
    return (kind, made, date, *words[5:])
