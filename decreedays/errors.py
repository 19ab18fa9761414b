"""The errors of the package.

No message shows the value at fault: it may be an integer too long to be written out.
"""


class NoRule(ValueError):
    """The value is not a rule."""

    def __init__(self, rule):
        ValueError.__init__(self, "not a rule")
        self.rule = rule


class NoDate(ValueError):
    """The value is not a date, or not one of the rule."""

    def __init__(self, date):
        ValueError.__init__(self, "not a date, or not one of the rule")
        self.date = date


class NoDecree(TypeError):
    """The value is not a decree, or not a standing one of the book."""

    def __init__(self, decree):
        TypeError.__init__(self, "not a decree, or not a standing one")
        self.decree = decree


class NoDay(IndexError):
    """The value is not a day, or not one from the first day on."""

    def __init__(self, day):
        IndexError.__init__(self, "not a day, or too early a one")
        self.day = day


class NoCount(ArithmeticError):
    """The value is not a number of months."""

    def __init__(self, count):
        ArithmeticError.__init__(self, "not an integer from 0")
        self.count = count


class NoName(ValueError):
    """The value is not a name."""

    def __init__(self, name):
        ValueError.__init__(self, "not a name of 1 to 8 letters a to z")
        self.name = name


class Taken(RuntimeError):
    """There is a contract under the name."""

    def __init__(self, name):
        RuntimeError.__init__(self, "there is a contract under this name")
        self.name = name


class Unknown(KeyError):
    """There is no contract under the name."""

    def __init__(self, name):
        KeyError.__init__(self, "there is no contract under this name")
        self.name = name


class NoContract(TypeError):
    """The value is not a contract."""

    def __init__(self, contract):
        TypeError.__init__(self, "not a contract")
        self.contract = contract


class Unlike(RuntimeError):
    """The first rules or the first dates of the books are not all equal."""


class TooMany(OverflowError):
    """There would be more decrees or contracts than the limit."""

    def __init__(self, limit):
        OverflowError.__init__(self, "more than the limit allows")
        self.limit = limit


class NoText(ValueError):
    """The value is not a text of the kind that is read."""

    def __init__(self, place):
        ValueError.__init__(self, "not a text of this kind")
        self.place = place


class NoCommand(ValueError):
    """The value is not a command of the desk."""


class NoBook(LookupError):
    """The desk has no registry."""
