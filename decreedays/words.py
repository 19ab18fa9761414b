"""The single words of texts: integers, months, and the forms of words [22]."""

from decreedays.basics import is_name
from decreedays.rules import MOST_DAYS

# Python itself refuses to write or to read integers of some thousand digits, so they are cut into pieces.
PIECE = 64
PIECE_END = 10 ** 64


def write_integer(number):
    """Return the word of an integer of any size."""
    if number < 0:
        return "-" + write_integer(-number)
    ends = [PIECE_END]
    while ends[-1] <= number:
        ends.append(ends[-1] * ends[-1])
    pieces = [number]
    for end in reversed(ends[:-1]):
        pieces = [half for piece in pieces for half in divmod(piece, end)]
    digits = "".join([str(piece).zfill(PIECE) for piece in pieces])
    return digits.lstrip("0") or "0"


def read_integer(word):
    """Return the integer that a word writes."""
    if word.startswith("-"):
        return -read_integer(word.removeprefix("-"))
    digits = "0" * (-len(word) % PIECE) + word
    pieces = [int(digits[at:at + PIECE]) for at in range(0, len(digits), PIECE)]
    end = PIECE_END
    while len(pieces) > 1:
        if len(pieces) % 2 == 1:
            pieces = [0] + pieces
        pieces = [pieces[at] * end + pieces[at + 1] for at in range(0, len(pieces), 2)]
        end = end * end
    return pieces[0]


def is_integer_word(word):
    """Return whether the word is an integer."""
    digits = word.removeprefix("-")
    if not digits.isascii() or not digits.isdigit():
        return False
    return word == "0" or not digits.startswith("0")


def is_count_word(word):
    """Return whether the word is an integer from 0."""
    return is_integer_word(word) and not word.startswith("-")


def is_day_word(word):
    """Return whether the word is a day of a month, or the last one."""
    return is_integer_word(word) and 1 <= read_integer(word) <= MOST_DAYS


def is_month_word(word):
    """Return whether the word is a name and a number of days with a colon between them."""
    name, _, days = word.partition(":")
    return is_name(name) and is_day_word(days)


def has_form(word, form):
    """Return whether the word has a form: `made`, `year`, `name` or `day`."""
    if form == "made":
        return is_count_word(word)
    if form == "year":
        return is_integer_word(word)
    if form == "day":
        return is_day_word(word)
    return is_name(word)
