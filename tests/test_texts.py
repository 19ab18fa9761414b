"""The texts of rules, dates and decrees [22]."""

from decreedays.errors import NoDate, NoDecree, NoRule
from decreedays.texts import read_date, read_decree, read_rule, show_date, show_decree, show_rule
from tests import reference, text_reference
from tests.case import Case
from tests.samples import (
    E, J, L, LARGE, LONGEST, N, ODD, R, RULES, S, SMALLEST, STRANGE, WORDS, mistyped, rewritten, spoiled,
)

DATES = ((1, "a", 1), (0, "b", 60), (-1, "abcdefgh", 9), (10 ** 50, "z", 10), (-(10 ** 50), "q", 59))
DECREES = (
    J, S, N, E, ("rule", 0, (1, "b", 2), SMALLEST, (-5, "a", 1)), ("rule", 10 ** 40, (0, "a", 1), ODD, (1, "b", 60)),
    ("rename", 12, (-(10 ** 50), "a", 1), "abcdefgh", "a"), ("restore", 10 ** 59, (7, "restore", 1)),
    ("jump", 0, (0, "record", 1), (0, "rule", 1)),
)
TEXTS = ("1 a 1", "-12 abcdefgh 60", show_rule(L + ODD), *(show_decree(decree) for decree in DECREES))


class ShowTest(Case):
    def test_dates(self):
        texts = ("1 a 1", "0 b 60", "-1 abcdefgh 9", "1" + "0" * 50 + " z 10", "-1" + "0" * 50 + " q 59")
        for date, text in zip(DATES, texts):
            self.check_same(show_date, [date], text)

    def test_rules(self):
        self.check_same(show_rule, [R], "a:3 b:2")
        self.check_same(show_rule, [L], "a:3 b:2 / a:3 b:3")
        self.check_same(show_rule, [SMALLEST], "a:1")
        self.check_same(show_rule, [ODD], "x:1 / b:60 a:1 x:2 / a:7 abcdefgh:31 z:59")
        self.check_same(show_rule, [SMALLEST * 20], "a:1" + " / a:1" * 19)

    def test_decrees(self):
        self.check_same(show_decree, [J], "jump 0 1 b 2 3 a 2")
        self.check_same(show_decree, [S], "restore 2 3 b 1")
        self.check_same(show_decree, [N], "rename 0 2 a 1 a c")
        self.check_same(show_decree, [E], "rule 4 2 b 1 3 b 3 a:3 b:2 / a:3 b:3")
        self.check_same(show_decree, [("restore", 10 ** 20, (-7, "a", 60))], "restore 1" + "0" * 20 + " -7 a 60")

    def test_what_is_no_rule_date_or_decree(self):
        for thing in STRANGE + (10, "a:3 b:2", "1 a 1", "restore 2 3 b 1"):
            self.check_raises(NoRule, "rule", thing, show_rule, thing)
            self.check_raises(NoDate, "date", thing, show_date, thing)
            self.check_raises(NoDecree, "decree", thing, show_decree, thing)
        for thing in (J, (1, "a", 1), R[0]):
            self.check_raises(NoRule, "rule", thing, show_rule, thing)
        for thing in (J, R):
            self.check_raises(NoDate, "date", thing, show_date, thing)
        for thing in (R, (1, "a", 1), ("rule", 0, (1, "a", 1), L, (2, "b", 3)), ("rename", 0, (1, "a", 1), "a", "a")):
            self.check_raises(NoDecree, "decree", thing, show_decree, thing)

    def test_spoiled_values(self):
        for thing in spoiled(S):
            if reference.decree(thing):
                self.assertEqual(text_reference.read_decree(show_decree(thing)), thing)
            else:
                self.check_raises(NoDecree, "decree", thing, show_decree, thing)


class ReadTest(Case):
    def check_read(self, read, expected_of, text):
        """Check that a text is read, or refused at its place, as the patterns tell."""
        try:
            expected = expected_of(text)
        except text_reference.Wrong as wrong:
            self.check_place(wrong.args[0], read, text)
            return
        self.check_same(read, [text], expected)

    def check_all(self, text):
        """Check one text by all three functions."""
        self.check_read(read_rule, text_reference.read_rule, text)
        self.check_read(read_date, text_reference.read_date, text)
        self.check_read(read_decree, text_reference.read_decree, text)

    def test_written_and_read_back(self):
        for date in DATES + tuple((year, "a", 1) for year in LARGE):
            self.check_same(read_date, [show_date(date)], date)
        for rule in RULES:
            self.check_same(read_rule, [show_rule(rule)], rule)
        for decree in DECREES + tuple(("jump", abs(year), (year, "a", 1), (-year, "b", 60)) for year in LARGE):
            self.check_same(read_decree, [show_decree(decree)], decree)

    def test_other_values_than_texts(self):
        for thing in STRANGE + (10, J, R, (1, "a", 1), b"1 a 1", ["1 a 1"], ("1 a 1",)):
            if not isinstance(thing, str):
                for read in (read_rule, read_date, read_decree):
                    self.check_place(-1, read, thing)

    def test_empty_texts_and_empty_words(self):
        for read, text in ((read_rule, "a:3 b:2"), (read_date, "1 a 1"), (read_decree, "restore 2 3 b 1")):
            self.check_place(0, read, "")
            self.check_place(0, read, " ")
            self.check_place(0, read, " " + text)
            self.check_place(len(text.split(" ")), read, text + " ")
            self.check_place(1, read, text.replace(" ", "  ", 1))

    def test_missing_words_have_the_number_of_the_words(self):
        for text, read in (("1 a 1", read_date), ("restore 2 3 b 1", read_decree), ("rename 0 2 a 1 a c", read_decree),
                           ("jump 0 1 b 2 3 a 2", read_decree), ("rule 0 1 b 2 3 a 2 a:3", read_decree)):
            words = text.split(" ")
            for many in range(len(words)):
                self.check_place(many, read, " ".join(words[:many]))
        self.check_place(2, read_rule, "a:3 /")
        self.check_place(10, read_decree, "rule 0 1 b 2 3 a 2 a:3 /")

    def test_the_sign_between_years(self):
        for text, place in (("/", 0), ("/ a:3", 0), ("a:3 / /", 2), ("a:3 / / b:2", 2), ("a:3 b:2 /", 3)):
            self.check_place(place, read_rule, text)
            self.check_place(place + 8, read_decree, "rule 0 1 b 2 3 a 2 " + text)

    def test_right_words_that_are_no_rule(self):
        letters = "abcdefghijklmn"
        for text in ("a:3 a:2", "a:3 / b:2 a:1 b:2", " ".join(letter + ":1" for letter in letters),
                     "a:1" + " / a:1" * 20, " / ".join(["a:1"] * 400)):
            self.check_place(len(text.split(" ")), read_rule, text)
            self.check_place(len(text.split(" ")) + 8, read_decree, "rule 0 1 b 2 3 a 1 " + text)
        # A wrong word comes first, although so many months are no year of a rule.
        self.check_place(15, read_rule, " ".join(letter + ":1" for letter in letters) + " / a:61 b")

    def test_right_words_that_are_no_decree(self):
        self.check_place(7, read_decree, "rename 0 1 a 1 b b")
        self.check_place(10, read_decree, "rule 0 1 b 2 3 a 4 a:3 b:2")
        self.check_place(10, read_decree, "rule 0 1 b 2 3 c 1 a:3 b:2")
        self.check_place(13, read_decree, "rule 0 1 b 2 2 b 3 a:3 b:2 / a:3 b:3")
        self.check_same(read_decree, ["rule 0 1 b 2 3 b 3 a:3 b:2 / a:3 b:3"], ("rule", 0, (1, "b", 2), L, (3, "b", 3)))

    def test_integers_of_each_form(self):
        for word in ("-0", "+1", "01", "-01", "00", "", "1.0", "a", "1_0", "0x1"):
            self.check_place(0, read_date, f"{word} a 1")
            self.check_place(2, read_date, f"1 a {word}")
            self.check_place(1, read_decree, f"restore {word} 3 b 1")
        for word in ("0", "61", "-1", "100", "9" * 5000):
            self.check_place(2, read_date, f"1 a {word}")
            self.check_place(0, read_rule, f"a:{word}")
        self.check_place(1, read_decree, "restore -1 3 b 1")
        self.check_same(read_decree, ["restore 0 -1 b 1"], ("restore", 0, (-1, "b", 1)))
        self.check_same(read_date, ["0 a 60"], (0, "a", 60))

    def test_kinds(self):
        for kind in ("", "rules", "Rule", "RULE", "record", "jumps", "a", "/", "1"):
            self.check_place(0, read_decree, kind)
            self.check_place(0, read_decree, kind + " 2 3 b 1")

    def test_one_word_changed_left_out_put_in_doubled_or_exchanged(self):
        for text in TEXTS:
            self.check_all(text)
            for other in rewritten(text, " ", WORDS):
                self.check_all(other)

    def test_one_sign_changed(self):
        for text in TEXTS:
            for other in mistyped(text):
                self.check_all(other)

    def test_the_longest_rule_spoiled(self):
        words = show_rule(LONGEST).split(" ")
        for place in range(0, len(words), 7):
            for other in WORDS:
                self.check_all(" ".join(words[:place] + [other] + words[place + 1:]))
