"""Equivalent rules and the least one among them [7]."""

from itertools import product

from decreedays.rules import is_rule, least_rule
from tests.case import Case
from tests.samples import L, LONGEST, ODD, R, RULES, SMALLEST

SHORT = (("a", 3), ("b", 2))
LONG = (("a", 3), ("b", 3))
TURNED = (("b", 2), ("a", 3))
RENAMED = (("a", 3), ("c", 2))
# Years that differ in one thing only, and as little as possible.
VARIANTS = (SHORT, LONG, TURNED, RENAMED, (("a", 3),))


def is_equivalent(one, other):
    """Tell whether each year has the same months in both rules, over as many years as both rounds go into."""
    return all(one[year % len(one)] == other[year % len(other)] for year in range(len(one) * len(other)))


class LeastRuleTest(Case):
    def check_least(self, rule):
        """Check that the result is equivalent, and that no shorter round is."""
        least = self.call(least_rule, rule)
        self.assertIs(is_rule(least), True)
        self.assertTrue(is_equivalent(rule, least))
        # A shorter equivalent rule has the years of this one from year 0 on.
        for many in range(1, len(least)):
            self.assertFalse(is_equivalent(rule, rule[:many]))

    def test_rounds_that_are_repeated(self):
        for rule in (R, L, ODD, SMALLEST, L + R, ODD + L):
            for times in range(1, 20 // len(rule) + 1):
                self.check_same(least_rule, [rule * times], rule)

    def test_every_length_of_a_year_repeated(self):
        for many in range(1, 21):
            self.check_same(least_rule, [(SHORT,) * many], (SHORT,))

    def test_every_divisor_of_twenty(self):
        for many in (1, 2, 4, 5, 10, 20):
            part = LONGEST[:many]
            self.check_same(least_rule, [part * (20 // many)], part)

    def test_rounds_that_are_nearly_repeated(self):
        for many in (1, 2, 3, 4, 5, 6, 10):
            rule = LONGEST[:many] * (20 // many)
            for place in range(len(rule)):
                for variant in VARIANTS:
                    nearly = rule[:place] + (variant,) + rule[place + 1:]
                    self.check_same(least_rule, [nearly], nearly)

    def test_one_year_left_out(self):
        for rule in (L * 10, ODD * 6):
            for place in range(len(rule)):
                self.check_least(rule[:place] + rule[place + 1:])
        self.check_same(least_rule, [L + L[:1]], L + L[:1])
        self.check_same(least_rule, [L + L + L[:1]], L + L + L[:1])

    def test_years_that_differ_little(self):
        for other in VARIANTS[1:]:
            self.check_same(least_rule, [(SHORT, other)], (SHORT, other))
            self.check_same(least_rule, [(SHORT, other, SHORT, other)], (SHORT, other))
            self.check_same(least_rule, [(SHORT, SHORT, SHORT, other)], (SHORT, SHORT, SHORT, other))
            self.check_same(least_rule, [(SHORT, other, other, SHORT)], (SHORT, other, other, SHORT))

    def test_rounds_that_have_no_shorter_one(self):
        for rule in (R, L, ODD, LONGEST, SMALLEST, L + ODD, LONGEST[:19], LONGEST[:7]):
            self.check_same(least_rule, [rule], rule)

    def test_all_rounds_of_two_years_up_to_ten(self):
        for many in range(1, 11):
            for rule in product((SHORT, LONG), repeat=many):
                self.check_least(rule)

    def test_all_rounds_of_three_years_up_to_six(self):
        for many in range(1, 7):
            for rule in product((SHORT, LONG, TURNED), repeat=many):
                self.check_least(rule)

    def test_the_least_rule_of_a_least_rule(self):
        for rule in RULES:
            least = least_rule(rule + rule) if len(rule) <= 10 else least_rule(rule)
            self.check_same(least_rule, [least], least)
