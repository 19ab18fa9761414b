"""Values that the tests share: the document's examples, values of all kinds, and ways to spoil a value."""

R = ((("a", 3), ("b", 2)),)
L = ((("a", 3), ("b", 2)), (("a", 3), ("b", 3)))
J = ("jump", 0, (1, "b", 2), (3, "a", 2))
S = ("restore", 2, (3, "b", 1))
N = ("rename", 0, (2, "a", 1), "a", "c")
E = ("rule", 4, (2, "b", 1), L, (3, "b", 3))

# Years that have no month, no number of days and no name of a month in common.
ODD = (
    (("x", 1),),
    (("b", 60), ("a", 1), ("x", 2)),
    (("a", 7), ("abcdefgh", 31), ("z", 59)),
)
# The longest rule that there may be: each of its twenty years is unlike the others.
LONGEST = tuple(
    tuple((letter * 8, 60 - (year * place) % 59) for place, letter in enumerate("abcdefghijklm"))
    for year in range(1, 21)
)
SMALLEST = ((("a", 1),),)
RULES = (R, L, ODD, LONGEST, SMALLEST, R + L, L + ODD + L)

SIXTY_DIGITS = 10 ** 60 - 1
LARGE = (
    10 ** 59, SIXTY_DIGITS, 123456789012345678901234567890123456789012345678901234567890,
    -(10 ** 59), -SIXTY_DIGITS, -(10 ** 59) - 7,
)


def nested(depth):
    """Return a list and a tuple in turn, so many deep."""
    thing = 1
    for level in range(depth):
        thing = [thing] if level % 2 else (thing,)
    return thing


# Values of all kinds of which none is a rule, a date, a decree, a month, a year, a day or a name.
STRANGE = (
    None, True, False, -1, -SIXTY_DIGITS, "", " ", "A", "a1", "a b", "abcdefghi", "~", "a" * 4000, "{", "`",
    (), [], ((),), [[]], ([],), (None,), ("a",), [("a", 1)], (True, True), ("a", True), ("a", 0), ("a", 61),
    (1, "a", 0), (1, "a", 61), (1, "a", True), (True, "a", 1), (1, 1, "a"), [1, "a", 1], (1, "a", 1, 1), (1, "a"),
    [["a", 3]], ((["a", 3],),), ([("a", 3)],), [(("a", 3),)], ((("a", 3), ("a", 2)),), (("a", "a"),),
    ("restore",), ("restore", 0), ["restore", 0, (1, "a", 1)], (["restore"], 0, (1, "a", 1)),
    nested(10), (1,) * 2000, [[0] * 40] * 40, "rule 0 1 a 1",
)
# Single values that fit in some places and not in others.
PIECES = STRANGE + (
    0, 1, 2, 14, 21, 60, 61, SIXTY_DIGITS, "a", "b", "abcdefgh", "rule", "jump", "rename", "restore",
    ("a", 3), ("b", 60), (1, "a", 1), (-1, "b", 2), R, L, R[0],
)

# Words that fit into some places of a text and not into others, and signs likewise.
WORDS = (
    "", "/", "//", "0", "1", "-1", "-0", "+1", "01", "00", "60", "61", "-", "9" * 50, "-" + "9" * 50, "1.0", "1_0",
    "a", "b", "abcdefgh", "abcdefghi", "A", "a1", "a-b", "a:3", "b:60", "b:61", "a:0", "a:03", "a:-1", "a:+1", "a:",
    ":3", "a:3:4", "a:b", "A:3", "abcdefghi:3", "3:a", "a:3/", "a: 3", "rule", "jump", "rename", "restore", "Rule",
    "rules", "record", "withdraw", ";", "a;", "True", "None", "~",
)
SIGNS = " -+/:;_.0169abzA~"


def spoiled(thing):
    """Yield the thing with one part of it, at any depth, replaced, left out, doubled, put in or made a list."""
    yield from PIECES
    if isinstance(thing, (tuple, list)):
        yield list(thing)
        yield tuple(thing)
        kind = type(thing)
        for place in range(len(thing)):
            before, part, behind = thing[:place], thing[place], thing[place + 1:]
            yield before + behind
            yield kind([*before, part, part, *behind])
            for piece in PIECES:
                yield kind([*before, piece, part, *behind])
            for other in spoiled(part):
                yield kind([*before, other, *behind])
        for piece in PIECES:
            yield kind([*thing, piece])


def next_date(rule, date):
    """Return the day after a date, as [5] tells it."""
    year, month, day = date
    months = rule[year % len(rule)]
    place = [name for name, days in months].index(month)
    if day < months[place][1]:
        return (year, month, day + 1)
    if place + 1 < len(months):
        return (year, months[place + 1][0], 1)
    return (year + 1, rule[(year + 1) % len(rule)][0][0], 1)


def date_before(rule, date):
    """Return the date whose day after is this one."""
    year, month, day = date
    months = rule[year % len(rule)]
    place = [name for name, days in months].index(month)
    if day > 1:
        return (year, month, day - 1)
    if place > 0:
        return (year, *months[place - 1])
    return (year - 1, *rule[(year - 1) % len(rule)][-1])


def round_days(rule):
    """Return how many days a round of the rule has."""
    return sum(days for months in rule for name, days in months)


def number(digits):
    """Return the number of decimal digits, one after another."""
    value = 0
    for digit in digits:
        value = value * 10 + "0123456789".index(digit)
    return value


def rewritten(text, between, others):
    """Yield the text with one part left out, doubled, replaced by another, put in, or two of them exchanged."""
    parts = text.split(between)
    for place, part in enumerate(parts):
        before, behind = parts[:place], parts[place + 1:]
        found = [[], [part, part]]
        for other in others:
            found += [[other], [other, part], [part, other]]
        for new in found:
            yield between.join(before + new + behind)
        for other in range(place):
            yield between.join(parts[:other] + [part] + parts[other + 1:place] + [parts[other]] + behind)


def mistyped(text):
    """Yield the text with one sign left out, replaced by another or put in."""
    for place in range(len(text)):
        yield text[:place] + text[place + 1:]
        for sign in SIGNS:
            yield text[:place] + sign + text[place + 1:]
            yield text[:place] + sign + text[place:]
