"""What becomes of decrees, and which ones a day needs [2, 13, 14]."""

from collections import Counter

from decreedays.book import Book
from decreedays.course import events
from decreedays.days import fate, needed
from decreedays.errors import NoDay, NoDecree
from tests.case import Case, picture
from tests.samples import E, J, L, N, R, S, STRANGE
from tests.scenarios import books
from tests.simulation import Walker, days_until, expected_date, expected_fate, without
from tests.test_days import BOOK, D, NO_DAYS, PLAIN

FAR = 10 ** 50


def jump(made, date, start):
    """Return the decree that the calendar continues from another date."""
    return ("jump", made, date, start)


class FateTest(Case):
    def check_fates(self, book):
        """Check what becomes of each standing decree. Return the fates."""
        walker = Walker(book)
        walker.go_to_the_end()
        found = []
        for decree in book.standing:
            found.append(expected_fate(walker, decree))
            self.check_same(fate, [book, decree], found[-1])
        return found

    def test_examples(self):
        self.check_same(fate, [BOOK, S], ("effective", 6))
        self.check_same(fate, [BOOK, N], ("lost", J))
        self.check_same(fate, [BOOK, J], ("effective", 4))

    def test_void(self):
        for decree in (("restore", 0, (1, "a", 2)), jump(0, (1, "a", 2), (1, "z", 1)),
                       ("rename", 1, (1, "a", 2), "a", "b")):
            self.check_same(fate, [Book(R, D, decree), decree], ("void", 1))

    def test_never_coming(self):
        late = ("restore", 2, (1, "a", 2))
        for decree in (late, ("restore", 0, (0, "b", 2)), ("restore", 0, (1, "z", 1)), ("restore", 0, (1, "b", 3))):
            self.check_same(fate, [Book(R, D, decree), decree], ("lost", None))
            # Another event does not end what was not coming.
            self.check_same(fate, [Book(R, D, decree, J), decree], ("lost", None))

    def test_made_too_late_until_a_jump_back(self):
        late, back = ("restore", 2, (1, "a", 2)), jump(0, (1, "b", 1), D)
        self.check_same(fate, [Book(R, D, late, back), late], ("effective", 4))
        over = jump(0, (1, "b", 1), (1, "a", 2))
        # On the day of the event itself the present day counts.
        self.check_same(fate, [Book(R, D, late, over), late], ("effective", 3))
        later = ("restore", 4, (1, "a", 2))
        self.check_same(fate, [Book(R, D, later, over), later], ("lost", None))

    def test_lost_found_again_and_lost_again(self):
        lost = ("restore", 0, (2, "a", 1))
        over, back = jump(0, (1, "a", 3), (3, "a", 1)), jump(0, (3, "a", 3), (1, "b", 1))
        self.check_same(fate, [Book(R, D, lost, over), lost], ("lost", over))
        self.check_same(fate, [Book(R, D, lost, over, back), lost], ("effective", 6))
        again = jump(0, (1, "b", 2), (4, "a", 1))
        self.check_same(fate, [Book(R, D, lost, over, back, again), lost], ("lost", again))
        # An event behind the one that ended it, and one before it, are not the cause.
        other = jump(0, (5, "a", 1), (6, "a", 1))
        self.check_same(fate, [Book(R, D, lost, over, other), lost], ("lost", over))
        earlier = ("rename", 0, (1, "a", 2), "b", "c")
        self.check_same(fate, [Book(R, D, lost, earlier, over), lost], ("lost", over))

    def test_ended_by_the_second_event_of_a_day(self):
        lost = ("restore", 0, (1, "b", 1))
        one, other = ("rename", 0, (1, "a", 2), "a", "c"), jump(0, (1, "c", 2), (2, "a", 1))
        self.check_same(fate, [Book(R, D, lost, one, other), lost], ("effective", 3))
        other = jump(0, (1, "c", 2), (2, "c", 1))
        self.check_same(fate, [Book(R, D, lost, one, other), lost], ("lost", other))

    def test_replaced_on_the_day_on_which_it_is_due(self):
        # Of two decrees for one date the last one is used, and the date is not there any more.
        one, other = ("restore", 0, (1, "a", 2)), jump(0, (1, "a", 2), (3, "a", 1))
        self.check_same(fate, [Book(R, D, one, other), one], ("void", 1))
        self.check_same(fate, [Book(R, D, one, other), other], ("effective", 1))
        one = jump(0, (1, "a", 2), (2, "a", 1))
        self.check_same(fate, [Book(R, D, one, other), one], ("lost", other))

    def test_another_rule_ends_decrees_and_a_restore_brings_them_back(self):
        rule = ("rule", 0, (1, "a", 2), ((("x", 9),),), (1, "x", 1))
        lost, back = ("restore", 1, (1, "b", 2)), ("restore", 0, (1, "x", 3))
        self.check_same(fate, [Book(R, D, rule, lost), lost], ("lost", rule))
        self.check_same(fate, [Book(R, D, rule, back, lost), lost], ("void", 4))

    def test_near(self):
        seen, causes = Counter(), Counter()
        for book in books("fates near", 800, most=12):
            found = self.check_fates(book)
            seen.update(thing[0] for thing in found)
            causes.update(thing[1] if thing[1] is None else thing[1][0] for thing in found if thing[0] == "lost")
        self.assertTrue(min(seen[word] for word in ("effective", "void", "lost")) > 200, seen)
        self.assertTrue(min(causes[word] for word in (None, "rule", "jump", "rename", "restore")) > 30, causes)

    def test_found_again(self):
        # Some decrees are coming, then not, and at last coming again.
        again = 0
        for book in books("fates again", 400, most=12):
            walker = Walker(book)
            walker.go_to_the_end()
            for decree in book.standing:
                self.check_same(fate, [book, decree], expected_fate(walker, decree))
                signs = [days_until(rule, present, decree[2]) is not None
                         for day, used, rule, present in walker.moments]
                changes = [one for one, other in zip(signs, signs[1:]) if one != other]
                again += changes[:2] == [True, False]
        self.assertTrue(again > 30, again)

    def test_far(self):
        seen = Counter()
        for years in ((0, FAR, -FAR), (10 ** 20, 5 - 10 ** 20, 1)):
            for book in books(f"fates far {years}", 150, years=years, latest=10 ** 20, most=12):
                seen.update(thing[0] for thing in self.check_fates(book))
        self.assertTrue(min(seen[word] for word in ("effective", "void", "lost")) > 50, seen)

    def test_no_standing_decree(self):
        book = Book(R, D, J, S, N, E, withdrawn=[N, ("restore", 0, D)])
        wrong = (N, ("restore", 0, D), ("jump", False, *J[2:]), ("restore", True, (3, "b", 1)), list(J), J[:3],
                 (*J, 1), ("jump", 1, *J[2:]), "restore 2 3 b 1", L, D, [J], (J,))
        for thing in STRANGE + wrong:
            self.check_raises(NoDecree, "decree", thing, fate, book, thing)
            self.check_raises(NoDecree, "decree", thing, fate, PLAIN, thing)
        thing = ("restore", True, D)
        self.check_raises(NoDecree, "decree", thing, fate, Book(R, D, ("restore", 1, D)), thing)
        for decree in (J, S, E):
            self.check_raises(NoDecree, "decree", decree, fate, PLAIN, decree)
            self.assertEqual(type(fate(book, decree)), tuple)


class NeededTest(Case):
    def check_needed(self, book, day):
        """Check the needed decrees of a day. Return them."""
        date = expected_date(book, day)
        expected = [decree for decree in book.standing if expected_date(without(book, decree), day) != date]
        self.check_same(needed, [book, day], expected)
        return expected

    def test_examples(self):
        self.check_same(needed, [BOOK, 5], [J])
        self.check_same(needed, [BOOK, 3], [])
        self.check_same(needed, [PLAIN, 3], [])

    def test_a_decree_that_is_not_used_by_then(self):
        for day in range(4):
            self.check_same(needed, [BOOK, day], [])

    def test_two_decrees_that_replace_each_other(self):
        one, other = jump(0, (1, "a", 2), (3, "a", 1)), jump(1, (1, "a", 2), (3, "a", 1))
        self.check_same(needed, [Book(R, D, one, other), 1], [])
        self.check_same(needed, [Book(R, D, one), 1], [one])

    def test_near(self):
        sizes = Counter()
        for book in books("needed", 60, most=12):
            for day in range(31):
                sizes[len(self.check_needed(book, day))] += 1
        self.assertTrue(min(sizes[many] for many in range(3)) > 50, sizes)

    def test_a_far_day(self):
        some = 0
        for years in ((0, 1), (0, FAR)):
            for book in books(f"needed far {years}", 60, years=years, most=12):
                for day in (10 ** 20, FAR * 7 + 3, 10 ** 60 - 1):
                    some += len(self.check_needed(book, day)) > 0
        self.assertTrue(some > 50, some)

    def test_new_lists_and_the_book_stays(self):
        found = needed(BOOK, 5)
        before = picture(BOOK), picture(events(BOOK))
        found.append(S)
        self.check_same(needed, [BOOK, 5], [J])
        self.assertEqual((picture(BOOK), picture(events(BOOK))), before)

    def test_no_day(self):
        for book in (PLAIN, BOOK):
            for thing in NO_DAYS:
                self.check_raises(NoDay, "day", thing, needed, book, thing)
