"""What is a rule, a date and a decree, told in other words than the program's, for comparison."""

import re


def whole(thing, low, high):
    """Tell whether the thing is an integer from low to high."""
    return type(thing) is int and low <= thing <= high


def name(thing):
    """Tell whether the thing is a name."""
    return type(thing) is str and re.fullmatch("[a-z]{1,8}", thing) is not None


def month(thing):
    """Tell whether the thing is a month."""
    if type(thing) is not tuple or len(thing) != 2:
        return False
    return name(thing[0]) and whole(thing[1], 1, 60)


def year(thing):
    """Tell whether the thing is a year."""
    if type(thing) is not tuple or len(thing) not in range(1, 14):
        return False
    if not all(month(part) for part in thing):
        return False
    return all(thing[one][0] != thing[other][0] for other in range(len(thing)) for one in range(other))


def rule(thing):
    """Tell whether the thing is a rule."""
    return type(thing) is tuple and len(thing) in range(1, 21) and all(year(part) for part in thing)


def date(thing):
    """Tell whether the thing is a date."""
    if type(thing) is not tuple or len(thing) != 3:
        return False
    return type(thing[0]) is int and name(thing[1]) and whole(thing[2], 1, 60)


def date_of(which, thing):
    """Tell whether the thing is a date of this rule."""
    if not date(thing):
        return False
    return thing[2] <= dict(which[thing[0] % len(which)]).get(thing[1], 0)


FORMS = {
    "rule": lambda rest: len(rest) == 2 and rule(rest[0]) and date_of(rest[0], rest[1]),
    "jump": lambda rest: len(rest) == 1 and date(rest[0]),
    "rename": lambda rest: len(rest) == 2 and all(name(part) for part in rest) and rest[0] != rest[1],
    "restore": lambda rest: rest == (),
}


def decree(thing):
    """Tell whether the thing is a decree."""
    if type(thing) is not tuple or len(thing) < 3 or type(thing[0]) is not str or thing[0] not in FORMS:
        return False
    made = type(thing[1]) is int and thing[1] >= 0
    return made and date(thing[2]) and FORMS[thing[0]](thing[3:])
