"""What is a name, a month, a year and a rule [2, 4]."""

from decreedays.rules import is_rule
from tests import reference
from tests.case import Case
from tests.samples import L, LONGEST, ODD, PIECES, R, RULES, SMALLEST, STRANGE, spoiled


def of_month(name, days):
    """Return a rule with one month."""
    return (((name, days),),)


def of_months(many):
    """Return a rule with so many months in its year."""
    return (tuple((letter, 1) for letter in "abcdefghijklmno"[:many]),)


class IsRuleTest(Case):
    def test_rules(self):
        for rule in RULES:
            self.check_answer(is_rule, [rule], True)

    def test_things_of_all_kinds(self):
        for thing in STRANGE:
            self.check_answer(is_rule, [thing], False)

    def test_days_of_a_month(self):
        for days in (1, 2, 59, 60):
            self.check_answer(is_rule, [of_month("a", days)], True)
        for days in (0, 61, -1, -60, 10 ** 60, True, False, None, "1", "", (1,), [1]):
            self.check_answer(is_rule, [of_month("a", days)], False)

    def test_names(self):
        for name in ("a", "z", "az", "abcdefgh", "zzzzzzzz"):
            self.check_answer(is_rule, [of_month(name, 3)], True)
        wrong = ("", "abcdefghi", "A", "aB", "Ab", "a1", "1", "a b", " a", "a ", "`", "{", "a{", "`a", "a-b")
        for name in wrong + ("a" * 4000, 0, 1, None, True, ("a",), ["a"], ("a", "b")):
            self.check_answer(is_rule, [of_month(name, 3)], False)

    def test_letters_beyond_z(self):
        for name in ("\u00e9", "a\u00e9", "\u00df", "\u0430", "a\n", "\x00"):
            self.check_answer(is_rule, [of_month(name, 3)], False)

    def test_months_of_a_year(self):
        for many in (1, 2, 12, 13):
            self.check_answer(is_rule, [of_months(many)], True)
        for many in (0, 14, 15):
            self.check_answer(is_rule, [of_months(many)], False)

    def test_years_of_a_round(self):
        for many in (1, 2, 19, 20):
            self.check_answer(is_rule, [R * many], True)
        for many in (0, 21, 40):
            self.check_answer(is_rule, [R * many], False)

    def test_a_name_twice_in_a_year(self):
        self.check_answer(is_rule, [((("a", 3), ("a", 2)),)], False)
        self.check_answer(is_rule, [((("a", 3), ("b", 2), ("a", 3)),)], False)
        self.check_answer(is_rule, [((("a", 3), ("b", 2)), (("b", 3), ("c", 1), ("c", 2)))], False)

    def test_a_name_in_two_years(self):
        self.check_answer(is_rule, [((("a", 3),), (("a", 3),), (("a", 2),))], True)

    def test_every_year_counts(self):
        for place in range(20):
            years = list(R * 20)
            years[place] = (("a", 0),)
            self.check_answer(is_rule, [tuple(years)], False)

    def test_every_month_counts(self):
        for place in range(13):
            months = list(of_months(13)[0])
            months[place] = ("z", 61)
            self.check_answer(is_rule, [(tuple(months),)], False)

    def test_lists_for_tuples(self):
        for thing in ([(("a", 3),)], ([("a", 3)],), ((["a", 3],),), [[["a", 3]]]):
            self.check_answer(is_rule, [thing], False)

    def test_months_of_one_or_three_parts(self):
        for month in ((), ("a",), (3,), ("a", 3, 3), ("a", "a"), (3, 3), (3, "a")):
            self.check_answer(is_rule, [((month,),)], False)

    def test_spoiled_rules(self):
        for rule in (R, L, ODD, SMALLEST):
            for thing in spoiled(rule):
                self.check_answer(is_rule, [thing], reference.rule(thing))

    def test_the_longest_rule_spoiled(self):
        for place in range(20):
            for piece in PIECES:
                for kept in (place, place + 1):
                    thing = LONGEST[:place] + (piece,) + LONGEST[kept:]
                    self.check_answer(is_rule, [thing], reference.rule(thing))
