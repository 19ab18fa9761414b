"""The desk: commands, answers and errors [2, 22, 23]."""

import random
from collections import Counter

from decreedays.desk import Desk
from decreedays.errors import NoBook, NoCommand, Taken, TooMany, Unknown
from decreedays.texts import show_date, show_decree, show_rule
from tests.case import Case, picture
from tests.desk_reference import Mirror
from tests.samples import J, L, N, PIECES, R, S, SIGNS, STRANGE, WORDS, mistyped, rewritten
from tests.scenarios import books
from tests.test_book import MANY

FOUND = "found 1 a 1 a:3 b:2"
COMMANDS = (
    FOUND, "found -1 b 3 a:3 b:2 / a:3 b:3", "record jump 0 1 b 2 3 a 2", "withdraw restore 2 3 b 1",
    "record rename 0 2 a 1 a c", "record rule 1 1 b 2 0 x 1 x:1 / y:3", "date 5", "days 3 a 2", "events", "later 3 1",
    "standing", "add rent later 3 1", "add fair date 0 1 b 1 1", "add wage month 0 12", "drop rent", "day rent",
    "names", "today 4", "due",
)
QUESTIONS = (
    "standing", "events", "names", "due", "date 0", "date 5", "days 3 a 2", "later 3 1", "day rent", "day fair",
)
FIRST_WORDS = tuple(dict.fromkeys(command.split(" ")[0] for command in COMMANDS))


def some_command(rand, book):
    """Return a command about a book and its decrees."""
    name = rand.choice(("rent", "fair", "wage", "a", "b"))
    day = rand.choice(("0", "1", "5", "11", "100000000000000000000"))
    months = rand.choice(("0", "1", "7"))
    decrees = book.recorded or [J]
    date = show_date(rand.choice([book.first_date, *(decree[2] for decree in decrees)]))
    return rand.choice((
        f"record {show_decree(rand.choice(decrees))}", f"record {show_decree(rand.choice(decrees))}",
        f"withdraw {show_decree(rand.choice(decrees))}", f"date {day}", f"days {date}", "events",
        f"later {day} {months}", "standing", f"add {name} date {day} {date} {rand.choice('123')}",
        f"add {name} later {day} {months}", f"add {name} month {day} {months}", f"drop {name}", f"day {name}",
        "names", f"today {day}", "due",
    ))


class DeskTest(Case):
    def outcome(self, desk, command):
        """Return what a desk answers, or its error's class and fields."""
        found = self.call(desk.say, command)
        return picture((type(found).__name__, vars(found) if isinstance(found, Exception) else found))

    def check(self, desk, mirror, command):
        """Check that a desk and its mirror answer the same. Return it."""
        expected = self.outcome(mirror, command)
        self.assertEqual(self.outcome(desk, command), expected, command)
        return expected

    def check_refused(self, desk, kind, fields, command):
        """Check that a command is refused with just this error, and changes nothing."""
        before = [self.outcome(desk, question) for question in QUESTIONS]
        error = self.call(desk.say, command)
        self.assertIs(type(error), kind, (error, command))
        self.assertEqual(picture(vars(error)), picture(fields))
        self.assertEqual([self.outcome(desk, question) for question in QUESTIONS], before)

    def told(self, *commands):
        """Return a desk that was told these commands, and its mirror."""
        desk, mirror = Desk(), Mirror()
        for command in commands:
            self.check(desk, mirror, command)
        return desk, mirror


class AnswersTest(DeskTest):
    def check_talk(self, *lines):
        """Check the answers of a new desk, one after another."""
        desk = Desk()
        for command, answer in lines:
            self.check_same(desk.say, [command], answer)

    def test_example(self):
        self.check_talk((FOUND, "ok"), ("add rent later 3 1", "5"), ("record jump 0 1 b 2 3 a 2", "rent 5 4"),
                        ("events", "4 effective jump 0 1 b 2 3 a 2"))

    def test_nothing_yet(self):
        self.check_talk((FOUND, "ok"), ("events", "-"), ("standing", "-"), ("names", "-"), ("due", "-"),
                        ("days 0 b 2", "-"), ("days 1 z 60", "-"), ("record restore 2 3 b 1", "-"))

    def test_several_parts(self):
        self.check_talk(
            (FOUND, "ok"), ("add rent later 3 1", "5"), ("add fair date 0 2 a 1 1", "5"), ("names", "fair rent"),
            ("add none date 7 2 a 1 1", "none"), ("day none", "none"), ("day fair", "5"), ("due", "-"),
            ("today 5", "ok"), ("due", "fair rent"), ("record restore 2 3 b 1", "-"),
            ("record jump 0 1 b 2 3 a 2", "fair 5 none; rent 5 4"), ("record jump 0 2 a 2 2 z 1", "-"),
            ("withdraw rename 0 1 a 1 a c", "-"), ("due", "-"), ("today 4", "ok"), ("due", "rent"),
            ("standing", "jump 0 1 b 2 3 a 2; jump 0 2 a 2 2 z 1; restore 2 3 b 1"),
            ("events", "4 effective jump 0 1 b 2 3 a 2; 6 effective restore 2 3 b 1; 6 void jump 0 2 a 2 2 z 1"),
            ("days 3 a 2", "4 11"), ("date 5", "3 a 3"), ("later 3 1", "4"), ("later 3 0", "3"),
            ("withdraw jump 0 1 b 2 3 a 2", "fair none 5; rent 4 5"), ("drop fair", "ok"), ("names", "none rent"),
        )

    def test_a_date_below_0_and_a_rule_of_two_years(self):
        self.check_talk(("found -2 b 2 a:3 b:2 / a:3 b:3", "ok"), ("date 0", "-2 b 2"), ("date 1", "-1 a 1"),
                        ("record rule 0 -1 a 2 7 b 3 a:3 b:2 / a:3 b:3", "-"), ("date 2", "7 b 3"),
                        ("standing", "rule 0 -1 a 2 7 b 3 a:3 b:2 / a:3 b:3"))

    def test_found_begins_anew(self):
        desk, mirror = self.told(FOUND, "record jump 0 1 b 2 3 a 2", "add rent later 3 1", "today 4", FOUND)
        for question in QUESTIONS:
            self.check(desk, mirror, question)
        self.assertEqual([desk.say("standing"), desk.say("names"), desk.say("add rent later 0 0"), desk.say("due")],
                         ["-", "-", "0", "rent"])

    def test_integers_of_any_length(self):
        # The last number of digits is more than Python itself reads and writes.
        for digits in (60, 1900, 4400):
            nines, power = "9" * digits, "1" + "0" * digits
            desk = Desk()
            decree = f"jump {nines} {power}{'0' * 50} a 1 -{nines} a 1"
            # The date comes on this day, is replaced, and comes again.
            day, again = "9" * 50 + "0" * (digits - 1) + "1", "2" + "0" * (digits + 50)
            for command, answer in (
                    (f"found {nines} a 1 a:1", "ok"), ("date 1", f"{power} a 1"), (f"days {power} a 1", "1"),
                    (f"later {nines} {nines}", f"1{nines[1:]}8"), (f"add rent month {nines} 1", power),
                    ("day rent", power), (f"add fair date 0 {power}{'0' * 50} a 1 1", day),
                    (f"record {decree}", f"fair {day} {again}"), ("standing", decree),
                    ("events", f"{day} effective {decree}"), (f"today {power}", "ok"), ("due", "rent"),
                    (f"withdraw {decree}", f"fair {again} {day}"), (f"today {power}{power}", "ok"),
                    ("names", "fair rent")):
                self.assertEqual(desk.say(command), answer)

    def test_many_talks(self):
        rand, seen = random.Random(33), Counter()
        for book in books("talks", 80) + books("talks far", 20, years=(0, 10 ** 40)):
            desk, mirror = self.told(f"found {show_date(book.first_date)} {show_rule(book.first_rule)}")
            for _ in range(60):
                command = some_command(rand, book)
                found = self.check(desk, mirror, command)
                seen[command.split(" ")[0], found.split("'")[1]] += 1
            for question in QUESTIONS:
                self.check(desk, mirror, question)
                self.assertEqual(self.outcome(desk, question), self.outcome(desk, question))
        wanted = [(word, "str") for word in FIRST_WORDS[1:]]
        wanted += [("add", "Taken"), ("drop", "Unknown"), ("day", "Unknown")]
        self.assertTrue(min(seen[key] for key in wanted) > 20, seen)

    def test_desks_share_nothing(self):
        one, other = Desk(), Desk()
        one.say(FOUND)
        self.check_refused(other, NoBook, {}, "names")
        other.say(FOUND)
        before = [self.outcome(other, question) for question in QUESTIONS]
        for command in COMMANDS[2:]:
            self.outcome(one, command)
        one.say("add new later 0 0")
        self.assertEqual([self.outcome(other, question) for question in QUESTIONS], before)

    def test_keyword(self):
        self.assertEqual(Desk().say(command=FOUND), "ok")


class NoCommandTest(DeskTest):
    def test_other_values(self):
        for desk in (Desk(), self.told(FOUND, "add rent later 3 1")[0]):
            for thing in STRANGE + PIECES + (["names"], ("names",), b"names", 0, FOUND.split(" "), {"names": 1}):
                self.check_refused(desk, NoCommand, {}, thing)

    def test_words_left_out_put_in_doubled_and_exchanged(self):
        accepted = Counter()
        for command in COMMANDS:
            for before in ((), (FOUND,), (FOUND, "add rent later 3 1", "record jump 0 1 b 2 3 a 2")):
                for other in rewritten(command, " ", WORDS + ("1", "a", "rent", "later", "date", "month", "a:3")):
                    # Much is said to a desk that has been told the same before.
                    found = self.check(*self.told(*before), other)
                    accepted["NoCommand" in found] += 1
        self.assertTrue(accepted[False] > 1000 and accepted[True] > 10000, accepted)

    def test_single_signs(self):
        for command in COMMANDS:
            for other in mistyped(command):
                self.check(*self.told(FOUND), other)
                self.check(*self.told(), other)

    def test_first_words_exchanged(self):
        for command in COMMANDS:
            for word in FIRST_WORDS + WORDS:
                self.check(*self.told(FOUND, "add rent later 3 1"), " ".join([word, *command.split(" ")[1:]]))
        for word in FIRST_WORDS:
            for sign in SIGNS:
                for other in (word + sign, sign + word, word.upper(), word.title()):
                    self.check(*self.told(FOUND), other)

    def test_a_first_date_that_is_not_of_the_rule(self):
        desk, mirror = self.told(FOUND, "add rent later 3 1")
        months = " ".join(f"{name}:1" for name in "abcdefghijklmn")
        for words in ("1 a 4 a:3 b:2", "1 c 1 a:3 b:2", "0 b 3 a:3 b:2 / a:3 b:3", "1 a 1 a:3 a:2", "1 a 1",
                      "1 a 61 a:60", "1 a 1" + " / a:3" * 20, "1 a 1 a:3" + " / a:3" * 20, f"1 a 1 {months}"):
            self.check_refused(desk, NoCommand, {}, f"found {words}")
        self.check(desk, mirror, "found 0 b 2 a:3 b:2 / a:3 b:3")

    def test_texts_that_are_no_decrees(self):
        desk = self.told(FOUND)[0]
        for text in ("rename 0 1 a 1 b b", "rule 0 1 a 1 2 b 3 a:3 b:2 / a:3 b:3", "rule 0 1 a 1 1 a 1 a:1 a:1",
                     "restore -1 1 a 1", "restore 0 1 a 0", "jump 0 1 a 1", "restore 0 1 a 1 1", "restore"):
            self.check_refused(desk, NoCommand, {}, f"record {text}")
            self.check_refused(desk, NoCommand, {}, f"withdraw {text}")


class OrderTest(DeskTest):
    def test_no_command_before_no_book(self):
        for command in COMMANDS:
            desk = Desk()
            if command.startswith("found"):
                self.assertEqual(desk.say(command), "ok")
            else:
                self.check_refused(desk, NoBook, {}, command)
            self.check_refused(Desk(), NoCommand, {}, f"{command} x/y")
            self.check_refused(Desk(), NoCommand, {}, f" {command}")
            self.check_refused(Desk(), NoCommand, {}, f"{command} ")

    def test_no_book_before_what_the_registry_raises(self):
        for command in ("drop rent", "day rent", "add rent later 3 1"):
            self.check_refused(Desk(), NoBook, {}, command)

    def test_what_the_registry_raises(self):
        desk = self.told(FOUND, "add rent later 3 1")[0]
        self.check_refused(desk, Taken, {"name": "rent"}, "add rent later 3 1")
        self.check_refused(desk, Taken, {"name": "rent"}, "add rent date 0 1 a 1 5")
        self.check_refused(desk, Unknown, {"name": "fair"}, "drop fair")
        self.check_refused(desk, Unknown, {"name": "fair"}, "day fair")
        for command in ("add rent date 0 1 a 1 0", "add Rent later 3 1", "drop Rent", "day abcdefghi", "today -1"):
            self.check_refused(desk, NoCommand, {}, command)

    def test_limits(self):
        desk = self.told(FOUND)[0]
        for decree in MANY[:30]:
            self.assertEqual(desk.say(f"record {show_decree(decree)}"), "-")
        for word in ("record", "withdraw"):
            self.check_refused(desk, TooMany, {"limit": 30}, f"{word} {show_decree(J)}")
            self.assertEqual(desk.say(f"{word} {show_decree(MANY[0])}"), "-")
        for first in "abcd":
            for second in "abcdefghij":
                self.assertEqual(desk.say(f"add {first}{second} later 0 0"), "0")
        self.check_refused(desk, TooMany, {"limit": 40}, "add rent later 3 1")
        self.check_refused(desk, Taken, {"name": "aa"}, "add aa later 3 1")
        self.check_refused(desk, NoCommand, {}, "add rent date 0 1 a 1 0")
        self.assertEqual([desk.say("drop aa"), desk.say("add rent later 3 1")], ["ok", "5"])

    def test_decrees_of_all_kinds(self):
        rule = ("rule", 0, (1, "a", 2), L, (3, "b", 3))
        desk, mirror = self.told(FOUND)
        for decree in (J, S, N, rule):
            self.check(desk, mirror, f"record {show_decree(decree)}")
            for question in QUESTIONS:
                self.check(desk, mirror, question)
        self.assertEqual(desk.say("standing"), "; ".join(show_decree(decree) for decree in (J, N, S, rule)))
        self.assertEqual(show_rule(R), "a:3 b:2")
