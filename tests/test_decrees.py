"""What is a decree [8]."""

from decreedays.decrees import is_decree
from tests import reference
from tests.case import Case
from tests.samples import E, J, L, LARGE, LONGEST, N, ODD, R, RULES, S, SMALLEST, STRANGE, spoiled

D = (1, "b", 2)
WRONG_DATES = (
    (1, "b", 0), (1, "b", 61), (1, "B", 2), (1, "", 2), (True, "b", 2), (1, "b", True), (1, "b"), [1, "b", 2],
)
ODD_YEARS = tuple(2 * year + 1 for year in LARGE)
EVEN_YEARS = tuple(2 * year for year in LARGE)


class IsDecreeTest(Case):
    def test_decrees_of_each_kind(self):
        for decree in (J, S, N, E, ("rule", 0, D, R, (1, "b", 2)), ("rename", 7, D, "b", "abcdefgh")):
            self.check_answer(is_decree, [decree], True)

    def test_things_of_all_kinds(self):
        for thing in STRANGE + RULES + (D, ("a", "b"), D + D):
            self.check_answer(is_decree, [thing], False)

    def test_made(self):
        for decree in (J, S, N, E):
            for made in (0, 1, 10 ** 60, 10 ** 999):
                self.check_answer(is_decree, [decree[:1] + (made,) + decree[2:]], True)
            for made in (-1, -(10 ** 60), True, False, None, "0", "", (0,), [0]):
                self.check_answer(is_decree, [decree[:1] + (made,) + decree[2:]], False)

    def test_date(self):
        for decree in (J, S, N, E):
            for date in ((0, "a", 1), (-5, "zzz", 60), *((year, "q", 1) for year in LARGE)):
                self.check_answer(is_decree, [decree[:2] + (date,) + decree[3:]], True)
            for date in WRONG_DATES:
                self.check_answer(is_decree, [decree[:2] + (date,) + decree[3:]], False)

    def test_kinds(self):
        wrong = ("", "Rule", "rules", "rul", "jumps", "renamed", "restor", "restored", "a")
        for decree in (J, S, N, E):
            for kind in wrong + (None, 0, True, ["rule"], ("rule",)):
                self.check_answer(is_decree, [(kind,) + decree[1:]], False)

    def test_a_kind_with_the_parts_of_another(self):
        for decree in (J, S, N, E):
            for kind in ("rule", "jump", "rename", "restore"):
                self.check_answer(is_decree, [(kind,) + decree[1:]], kind == decree[0])

    def test_lists_for_tuples(self):
        for decree in (J, S, N, E):
            self.check_answer(is_decree, [list(decree)], False)

    def test_parts_left_out_and_put_in(self):
        for decree in (J, S, N, E):
            for many in range(len(decree)):
                self.check_answer(is_decree, [decree[:many]], False)
            for more in (None, 0, "a", D, R, ()):
                self.check_answer(is_decree, [decree + (more,)], False)

    def test_the_start_of_a_rule(self):
        right = ((1, "b", 3), (-1, "b", 3), (2, "b", 2), (0, "a", 3))
        for start in right + tuple((year, "b", 3) for year in ODD_YEARS):
            self.check_answer(is_decree, [("rule", 0, D, L, start)], True)
        wrong = ((2, "b", 3), (0, "b", 3), (1, "b", 4), (1, "c", 1), (1, "a", 4))
        for start in wrong + WRONG_DATES + STRANGE + tuple((year, "b", 3) for year in EVEN_YEARS):
            self.check_answer(is_decree, [("rule", 0, D, L, start)], False)

    def test_the_rule_of_a_rule(self):
        for rule in RULES:
            start = (0, *rule[0][0])
            self.check_answer(is_decree, [("rule", 0, D, rule, start)], True)
            self.check_answer(is_decree, [("rule", 0, D, list(rule), start)], False)
            self.check_answer(is_decree, [("rule", 0, D, rule + ((("a", 0),),), start)], False)
        for rule in STRANGE + (R * 21, LONGEST + R, ((("a", 1),), ())):
            self.check_answer(is_decree, [("rule", 0, D, rule, (0, "a", 1))], False)

    def test_the_date_need_not_be_one_of_the_rule(self):
        self.check_answer(is_decree, [("rule", 0, (7, "zzz", 60), SMALLEST, (7, "a", 1))], True)

    def test_the_start_of_a_jump(self):
        for start in ((0, "a", 1), (-3, "zzzzzzzz", 60), D, *((year, "q", 60) for year in LARGE)):
            self.check_answer(is_decree, [("jump", 0, D, start)], True)
        for start in WRONG_DATES + STRANGE:
            self.check_answer(is_decree, [("jump", 0, D, start)], False)

    def test_the_names_of_a_rename(self):
        for old, new in (("a", "b"), ("b", "a"), ("a", "aa"), ("abcdefgh", "abcdefgg")):
            self.check_answer(is_decree, [("rename", 0, D, old, new)], True)
        for name in ("a", "b", "abcdefgh"):
            self.check_answer(is_decree, [("rename", 0, D, name, name)], False)
        for name in ("", "A", "abcdefghi", "a1", 1, None, True, ("a",), ["a"]):
            self.check_answer(is_decree, [("rename", 0, D, name, "b")], False)
            self.check_answer(is_decree, [("rename", 0, D, "b", name)], False)

    def test_spoiled_decrees(self):
        for decree in (J, S, N, E, ("rule", 0, D, ODD[1:], (0, "b", 60))):
            for thing in spoiled(decree):
                self.check_answer(is_decree, [thing], reference.decree(thing))
