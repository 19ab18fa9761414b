"""Integers of any size in texts [22], beyond what Python itself reads and writes."""

import random

from decreedays.texts import read_date, read_decree, show_date, show_decree
from decreedays.words import is_integer_word, read_integer, write_integer
from tests.case import Case
from tests.samples import number

LENGTHS = (1, 2, 63, 64, 65, 127, 128, 129, 192, 193, 256, 999, 1000, 4299, 4300, 4301, 9000, 20000)


def lines():
    """Return digits of all lengths: nines, a one before zeros, and others."""
    rand = random.Random(22)
    found = ["0"]
    for length in LENGTHS:
        found += ["9" * length, "1" + "0" * (length - 1), "1" * length]
        found.append("7" + "".join(rand.choice("0123456789") for _ in range(length - 1)))
        found.append("5" + "0" * (length - 1) + "3")
    return found


class IntegersTest(Case):
    def test_written_and_read_back(self):
        for digits in lines():
            value = number(digits)
            self.assertTrue(write_integer(value) == digits, len(digits))
            self.assertTrue(read_integer(digits) == value, len(digits))
            if value:
                self.assertTrue(write_integer(-value) == "-" + digits, len(digits))
                self.assertTrue(read_integer("-" + digits) == -value, len(digits))

    def test_years_and_days_of_any_size(self):
        for digits in lines():
            value = number(digits)
            self.assertTrue(show_date((value, "a", 1)) == digits + " a 1")
            self.assertTrue(read_date(digits + " a 1") == (value, "a", 1))
            decree = ("jump", value, (-1 - value, "a", 1), (value, "b", 2))
            text = show_decree(decree)
            self.assertTrue(text.startswith(f"jump {digits} -"))
            self.assertTrue(text.endswith(f" a 1 {digits} b 2"))
            self.assertTrue(read_decree(text) == decree)

    def test_words_of_integers(self):
        for word in ("0", "1", "-1", "10", "-10", "9" * 5000, "-" + "9" * 5000):
            self.check_answer(is_integer_word, [word], True)
        wrong = ("", "-", "-0", "+1", "00", "01", "-01", "--1", "1-", "1.0", "1_0", "0x1", "a", " 1", "1 ", "1e3")
        for word in wrong + ("\u0661", "\u00b2", "1\u0661", "-" + "0" * 5000, "0" + "9" * 5000):
            self.check_answer(is_integer_word, [word], False)
