"""Books made at random, always the same ones, in which much happens within a few days."""

import random

from decreedays.book import Book
from tests.samples import next_date

NAMES = ("a", "b", "c", "d")
KINDS = ("rule", "jump", "rename", "restore")


def some_rule(rand, longest=4):
    """Return a rule of one to four short years."""
    years = []
    for _ in range(rand.randint(1, longest)):
        names = rand.sample(NAMES, rand.randint(1, 3))
        years.append(tuple((name, rand.randint(1, 3)) for name in names))
    return tuple(years)


def some_date(rand, rule, year):
    """Return a date of the rule, in this year or in one of the next three."""
    year += rand.randint(0, 3)
    name, days = rand.choice(rule[year % len(rule)])
    return (year, name, rand.randint(1, days))


def some_decree(rand, rule, dates, years, latest):
    """Return a decree of any kind that awaits, and continues from, some of these dates or others of these years."""
    date = rand.choice(dates)
    if rand.random() < 0.1:
        date = (rand.choice(years), rand.choice(NAMES), rand.randint(1, 3))
    made = 0 if rand.random() < 0.5 else rand.randint(0, latest)
    kind = rand.choice(KINDS)
    if kind == "rule":
        other = some_rule(rand)
        return (kind, made, date, other, some_date(rand, other, rand.choice(years)))
    if kind == "jump":
        start = rand.choice(dates) if rand.random() < 0.8 else some_date(rand, some_rule(rand), rand.choice(years))
        return (kind, made, date, start)
    if kind == "rename":
        return (kind, made, date, *rand.sample(NAMES, 2))
    return (kind, made, date)


def some_book(rand, years=(-1, 0, 1), most=10, latest=30):
    """Return a book with up to so many decrees, whose dates are of these years and the next ones."""
    rule = some_rule(rand)
    start = some_date(rand, rule, rand.choice(years))
    dates = [some_date(rand, rule, rand.choice(years)) for _ in range(4)]
    # The first days of the course are awaited more often than others.
    date = start
    for _ in range(8):
        dates.append(date)
        date = next_date(rule, date)
    decrees = [some_decree(rand, rule, dates, years, latest) for _ in range(rand.randint(0, most))]
    withdrawn = [decree for decree in decrees if rand.random() < 0.1]
    return Book(rule, start, *decrees, withdrawn=withdrawn)


def books(seed, many, **more):
    """Return so many books, the same ones for the same seed."""
    rand = random.Random(seed)
    return [some_book(rand, **more) for _ in range(many)]
