"""The course of events, told one by one [10 to 12]."""

import itertools

from decreedays.book import Book
from decreedays.course import date_on, events, stack_on, stretches, walk
from decreedays.errors import NoDay
from tests.case import Case, picture
from tests.samples import J, L, N, R, S, SIXTY_DIGITS, SMALLEST, STRANGE

D = (1, "a", 1)
PLAIN = Book(R, D)
BOOK = Book(R, D, J, S, N)
WEEK = ((("a", 7),),)


def jump(made, date, start):
    """Return the decree that the calendar continues from another date."""
    return ("jump", made, date, start)


class CourseTest(Case):
    def check_course(self, book, happened, dates):
        """Check the events, as days and decrees with a sign whether they are void, and the dates of the first days."""
        found = [(event[0], event[1], event[4]) for event in self.call(events, book)]
        self.assertEqual(picture(found), picture(happened))
        self.assertEqual(picture([self.call(date_on, book, day) for day in range(len(dates))]), picture(dates))
        self.assertEqual(picture(list(itertools.islice(walk(book), len(dates)))), picture(list(enumerate(dates))))


class ExamplesTest(CourseTest):
    def test_dates(self):
        days = [date_on(BOOK, day) for day in [0, 4, 5, 6, 10]]
        self.assertEqual(picture(days), picture([(1, "a", 1), (3, "a", 2), (3, "a", 3), (2, "a", 2), (3, "a", 1)]))
        dates = [(1, "a", 1), (1, "a", 2), (1, "a", 3), (1, "b", 1), (1, "b", 2), (2, "a", 1), (2, "a", 2)]
        self.check_course(PLAIN, [], dates)
        self.check_course(BOOK, [(4, J, True), (6, S, True)], [*dates[:4], (3, "a", 2), (3, "a", 3), (2, "a", 2)])

    def test_events(self):
        happened = [(4, J, (1, "b", 2), (3, "a", 2), True), (6, S, (3, "b", 1), (2, "a", 2), True)]
        self.check_same(events, [BOOK], happened)
        self.check_same(events, [PLAIN], [])

    def test_stacks(self):
        self.check_same(stack_on, [BOOK, 0], [(R, D)])
        self.check_same(stack_on, [BOOK, 4], [(R, (1, "b", 2)), (R, (3, "a", 2))])
        self.check_same(stack_on, [BOOK, 5], [(R, (2, "a", 1)), (R, (3, "a", 3))])
        self.check_same(stack_on, [BOOK, 6], [(R, (2, "a", 2))])

    def test_stretches(self):
        self.check_same(stretches, [BOOK], [(0, 3), (4, 5), (6, None)])
        self.check_same(stretches, [PLAIN], [(0, None)])


class WrongDaysTest(CourseTest):
    def test_no_day(self):
        for book in (PLAIN, BOOK):
            for thing in STRANGE + (-1, -SIXTY_DIGITS, True, False, None, "0", [0], (0,), D):
                self.check_raises(NoDay, "day", thing, date_on, book, thing)
                self.check_raises(NoDay, "day", thing, stack_on, book, thing)
                self.check_raises(NoDay, "day", thing, lambda since: next(walk(book, since=since)), thing)

    def test_walk_raises_with_the_first_item_only(self):
        days = walk(BOOK, since=-1)
        self.check_raises(NoDay, "day", -1, next, days)


class WalkTest(CourseTest):
    def test_since_any_day(self):
        for book in (PLAIN, BOOK, Book(L, (-1, "b", 3), J, N)):
            for since in [*range(12), 10 ** 20, SIXTY_DIGITS]:
                expected = [(day, date_on(book, day)) for day in range(since, since + 9)]
                self.assertEqual(picture(list(itertools.islice(walk(book, since=since), 9))), picture(expected))

    def test_since_is_passed_by_keyword(self):
        self.assertRaises(TypeError, lambda: walk(BOOK, 5))
        self.assertEqual(next(walk(book=BOOK, since=5)), (5, (3, "a", 3)))

    def test_two_walks_at_once(self):
        one, other = walk(BOOK), walk(PLAIN, since=3)
        rows = [(next(one), next(other)) for _ in range(5)]
        self.assertEqual([row[0] for row in rows], [(day, date_on(BOOK, day)) for day in range(5)])
        self.assertEqual([row[1] for row in rows], [(day, date_on(PLAIN, day)) for day in range(3, 8)])


class FreshTest(CourseTest):
    def test_returned_lists_are_new(self):
        for function, args in ((events, [BOOK]), (stack_on, [BOOK, 5]), (stretches, [BOOK])):
            expected = picture(function(*args))
            for _ in range(2):
                found = function(*args)
                found.append(found.pop(0))
                found.clear()
                self.assertEqual(picture(function(*args)), expected)

    def test_a_list_stays_when_the_book_changes(self):
        book = Book(R, D, J, S)
        found = events(book)
        before = picture(found)
        book.withdraw(J, S)
        self.assertEqual(picture(found), before)
        self.assertEqual(events(book), [])


class OrderTest(CourseTest):
    def test_the_order_of_the_calls_does_not_matter(self):
        other = jump(0, (2, "a", 3), (1, "b", 2))
        calls = [("record", J), ("record", S), ("record", N), ("withdraw", other), ("record", other), ("record", J)]
        expected = picture(events(BOOK)), [date_on(BOOK, day) for day in range(20)], stack_on(BOOK, 5)
        for order in itertools.permutations(calls):
            book = Book(R, D)
            for call, decree in order:
                getattr(book, call)(decree)
            self.assertTrue(book == Book(R, D, J, S, N, other, withdrawn=[other]))
            found = picture(events(book)), [date_on(book, day) for day in range(20)], stack_on(book, 5)
            self.assertEqual(found, expected)

    def test_withdrawn_decrees_are_not_used(self):
        rename = (5, N, (2, "a", 1), (2, "c", 1), True)
        self.assertEqual(events(Book(R, D, J, S, N, withdrawn=[J, S])), [rename])
        restore = (13, S, (3, "b", 1), (3, "b", 1), True)
        self.assertEqual(events(Book(R, D, J, S, N, withdrawn=[J])), [rename, restore])
        self.assertEqual(events(Book(R, D, withdrawn=[J, S, N])), [])


class SameDateTest(CourseTest):
    def test_the_last_decree_in_order_is_used_first(self):
        date, start = (1, "a", 3), (5, "a", 1)
        decrees = [
            ("jump", 0, date, (1, "a", 3)), ("jump", 0, date, (1, "b", 1)), ("rename", 0, date, "a", "b"),
            ("rename", 0, date, "b", "d"), ("restore", 0, date), ("rule", 0, date, L, (1, "a", 3)),
            ("jump", 1, date, (1, "a", 3)), ("restore", 1, date), ("rule", 1, date, R, (1, "a", 3)),
            ("jump", 2, date, (1, "a", 3)), ("restore", 2, date),
        ]
        order = sorted(decrees, key=lambda decree: (decree[1], decree))
        for one, other in itertools.combinations(decrees, 2):
            first = max((one, other), key=order.index)
            self.assertEqual(events(Book(R, D, one, other))[0][:2], (2, first))
        # A decree that was made later than its date comes is not used, whatever its kind.
        late = ("rule", 3, date, R, start)
        for one in decrees:
            self.assertEqual(events(Book(R, D, one, late))[0][:2], (2, one))

    def test_a_rule_before_a_restore(self):
        rule, restore = ("rule", 0, (1, "a", 2), R, (1, "a", 2)), ("restore", 0, (1, "a", 2))
        dates = [D, (1, "a", 2), (1, "a", 3)]
        self.check_course(Book(R, D, rule, restore), [(1, rule, True), (1, restore, True)], dates)
        later = ("restore", 1, (1, "a", 2))
        self.check_course(Book(R, D, rule, later), [(1, later, False), (1, rule, True)], dates)

    def test_a_void_event_lets_the_next_decree_follow(self):
        void, other = ("restore", 1, (1, "a", 2)), jump(0, (1, "a", 2), (9, "b", 1))
        happened = [(1, void, False), (1, other, True)]
        self.check_course(Book(R, D, void, other), happened, [D, (9, "b", 1), (9, "b", 2), (10, "a", 1)])

    def test_the_second_of_two_is_used_when_the_date_comes_again(self):
        one, other = jump(0, (1, "a", 3), (1, "a", 1)), jump(1, (1, "a", 3), (1, "a", 2))
        happened = [(2, other, True), (3, one, True)]
        self.check_course(Book(R, D, one, other), happened, [D, (1, "a", 2), (1, "a", 2), D, (1, "a", 2), (1, "a", 3)])


class MadeTest(CourseTest):
    def test_made_on_the_day_itself_and_later(self):
        for made in range(4):
            decree = jump(made, (1, "a", 3), (7, "a", 1))
            happened = [(2, decree, True)] if made <= 2 else []
            self.check_course(Book(R, D, decree), happened, [D, (1, "a", 2), (7, "a", 1) if made <= 2 else (1, "a", 3)])

    def test_a_date_that_comes_again_after_the_decree_was_made(self):
        back, late = jump(0, (1, "b", 1), D), jump(3, (1, "a", 2), (9, "a", 1))
        dates = [D, (1, "a", 2), (1, "a", 3), D, (9, "a", 1), (9, "a", 2)]
        self.check_course(Book(R, D, back, late), [(3, back, True), (4, late, True)], dates)

    def test_on_day_0(self):
        decree = jump(0, D, (4, "b", 2))
        self.check_course(Book(R, D, decree), [(0, decree, True)], [(4, "b", 2), (5, "a", 1)])
        self.check_same(stretches, [Book(R, D, decree)], [(0, None)])
        self.check_course(Book(R, D, jump(1, D, (4, "b", 2))), [], [D, (1, "a", 2)])

    def test_dates_before_the_first_one_are_never_used(self):
        self.check_course(Book(R, D, jump(0, (0, "b", 2), (4, "b", 2))), [], [D, (1, "a", 2)])


class ChainTest(CourseTest):
    def chain(self, many, end):
        """Return decrees that lead from 3 a 1 over so many other dates on one day to the end."""
        dates = [(year, "a", 1) for year in range(3, 3 + many)] + [end]
        return [jump(0, date, start) for date, start in zip(dates, dates[1:])]

    def test_up_to_twelve_on_one_day(self):
        for many in range(1, 13):
            decrees = self.chain(many, (90, "b", 2))
            for order in (decrees, decrees[::-1]):
                book = Book(R, (2, "b", 2), *order)
                dates = [(2, "b", 2), (90, "b", 2), (91, "a", 1)]
                self.check_course(book, [(1, decree, True) for decree in decrees], dates)
                self.assertEqual(len(stack_on(book, 0)), 1)
                self.assertEqual(len(stack_on(book, 1)), many + 1)
                self.check_same(stretches, [book], [(0, 0), (1, None)])

    def test_back_to_the_first_date(self):
        for many in range(1, 13):
            decrees = self.chain(many, (3, "a", 1))
            book = Book(R, (2, "b", 2), *decrees)
            dates = [(2, "b", 2), (3, "a", 1), (3, "a", 2)]
            self.check_course(book, [(1, decree, True) for decree in decrees], dates)

    def test_back_to_a_date_that_another_decree_waits_for(self):
        decrees = self.chain(11, (3, "a", 1))
        earlier = ("rename", 0, (3, "a", 1), "a", "z")
        # The rename is used first, as "rename" comes after "jump", and nobody waits for 3 z 1.
        self.check_course(Book(R, (2, "b", 2), *decrees, earlier), [(1, earlier, True)], [(2, "b", 2), (3, "z", 1)])
        later = [jump(decree[1] + 1, *decree[2:]) for decree in decrees]
        happened = [(1, decree, True) for decree in later + [earlier]]
        dates = [(2, "b", 2), (3, "z", 1), (3, "z", 2)]
        self.check_course(Book(R, (2, "b", 2), *later, earlier), happened, dates)

    def test_all_kinds_on_one_day(self):
        other = ((("c", 2),), (("a", 1), ("d", 2)))
        decrees = [
            ("rule", 0, (1, "a", 2), other, (2, "c", 1)), ("rename", 0, (2, "c", 1), "c", "e"),
            jump(0, (2, "e", 1), (5, "d", 2)), ("restore", 1, (5, "d", 2)), ("restore", 0, (2, "e", 1)),
        ]
        # Of the two that wait for 2 e 1 the restore is used first; the jump then has no date, 5 d 2 comes by itself.
        happened = [(1, decrees[0], True), (1, decrees[1], True), (1, decrees[4], True), (10, decrees[3], True)]
        self.check_course(Book(R, D, *decrees), happened, [D, (2, "c", 1), (2, "c", 2), (3, "a", 1), (3, "d", 1)])
        happened = [(1, decree, True) for decree in decrees[:4]]
        book = Book(R, D, *decrees[:4])
        # The last restore of day 1 brings back 2 e 1, for which nobody waits any more.
        self.check_course(book, happened, [D, (2, "e", 1), (2, "e", 2), (3, "a", 1)])
        self.check_same(stack_on, [book, 1], [(R, (1, "a", 2)), (other, (2, "c", 1)),
                                              (((("e", 2),), (("a", 1), ("d", 2))), (2, "e", 1))])

    def test_thirty_events(self):
        decrees = self.chain(30, (90, "b", 2))
        self.assertEqual(events(Book(R, (3, "a", 1), *decrees))[-1][:2], (0, decrees[-1]))
        self.assertEqual(len(stack_on(Book(R, (3, "a", 1), *decrees), 0)), 31)
        restores = [("restore", made, (1, "a", 1)) for made in range(30)]
        self.assertEqual(len(events(Book(R, D, *restores))), 1)


class VoidTest(CourseTest):
    def test_restore_with_one_calendar(self):
        decree = ("restore", 0, (1, "a", 2))
        book = Book(R, D, decree)
        self.check_same(events, [book], [(1, decree, (1, "a", 2), (1, "a", 2), False)])
        self.check_same(stretches, [book], [(0, None)])
        self.check_same(stack_on, [book, 1], [(R, (1, "a", 2))])

    def test_jump_to_what_is_no_date_of_the_rule(self):
        for start in ((1, "c", 1), (1, "a", 4), (2, "b", 3), (1, "b", 60)):
            decree = jump(0, (1, "a", 2), start)
            self.check_same(events, [Book(R, D, decree)], [(1, decree, (1, "a", 2), (1, "a", 2), False)])
        # The rule in force counts, not the first one.
        other, decree = ("rule", 0, (1, "a", 2), L, (1, "b", 2)), jump(0, (1, "b", 3), (5, "b", 3))
        self.check_course(Book(R, D, other, decree), [(1, other, True), (2, decree, True)],
                          [D, (1, "b", 2), (5, "b", 3), (6, "a", 1)])

    def test_a_void_decree_is_used_up(self):
        void, back = ("restore", 0, (1, "a", 2)), jump(0, (1, "b", 1), D)
        book = Book(R, D, void, back)
        self.check_course(book, [(1, void, False), (3, back, True)], [D, (1, "a", 2), (1, "a", 3), D, (1, "a", 2)])

    def test_an_effective_event_that_changes_no_date(self):
        for decree in (jump(0, (1, "a", 2), (1, "a", 2)), ("rule", 0, (1, "a", 2), R, (1, "a", 2)),
                       ("rename", 0, (1, "a", 2), "b", "q")):
            book = Book(R, D, decree)
            self.check_same(events, [book], [(1, decree, (1, "a", 2), (1, "a", 2), True)])
            self.check_same(stretches, [book], [(0, 0), (1, None)])
            self.assertEqual(len(stack_on(book, 1)), 2)


class RenameTest(CourseTest):
    def test_dates_under_old_and_new_names(self):
        rename = ("rename", 0, (1, "a", 2), "a", "c")
        old, new = jump(0, (1, "a", 3), (5, "b", 1)), jump(0, (1, "c", 3), (7, "b", 1))
        dates = [D, (1, "c", 2), (7, "b", 1), (7, "b", 2), (8, "c", 1)]
        self.check_course(Book(R, D, rename, old, new), [(1, rename, True), (2, new, True)], dates)

    def test_starts_under_old_and_new_names(self):
        rename = ("rename", 0, (1, "a", 2), "a", "c")
        old, new = jump(0, (1, "c", 3), (5, "a", 1)), jump(0, (1, "b", 1), (7, "c", 1))
        happened = [(1, rename, True), (2, old, False), (3, new, True)]
        self.check_course(Book(R, D, rename, old, new), happened, [D, (1, "c", 2), (1, "c", 3), (7, "c", 1)])

    def test_restored_names(self):
        rename, restore = ("rename", 0, (1, "a", 2), "a", "c"), ("restore", 0, (1, "c", 3))
        after = jump(0, (1, "a", 3), (5, "b", 2))
        happened = [(1, rename, True), (2, restore, True), (2, after, True)]
        dates = [D, (1, "c", 2), (5, "b", 2), (6, "a", 1)]
        self.check_course(Book(R, D, rename, restore, after), happened, dates)
        self.check_course(Book(R, D, rename, ("restore", 0, (1, "a", 3))), [(1, rename, True)], [D, (1, "c", 2)])

    def test_an_old_name_that_no_year_has(self):
        decree = ("rename", 0, (1, "a", 2), "c", "d")
        self.check_same(events, [Book(R, D, decree)], [(1, decree, (1, "a", 2), (1, "a", 2), False)])

    def test_an_old_name_that_only_another_year_has(self):
        rule = ((("a", 2),), (("b", 2),))
        decree = ("rename", 0, (0, "a", 1), "b", "c")
        dates = [(0, "a", 1), (0, "a", 2), (1, "c", 1), (1, "c", 2), (2, "a", 1)]
        self.check_course(Book(rule, (0, "a", 1), decree), [(0, decree, True)], dates)

    def test_a_new_name_beside_the_old_one_in_some_year(self):
        rule = ((("a", 2),), (("b", 1), ("a", 1)))
        decree = ("rename", 0, (0, "a", 1), "a", "b")
        dates = [(0, "a", 1), (0, "a", 2), (1, "b", 1), (1, "a", 1)]
        self.check_course(Book(rule, (0, "a", 1), decree), [(0, decree, False)], dates)

    def test_a_new_name_in_years_without_the_old_one(self):
        rule = ((("a", 2),), (("b", 1), ("d", 1)))
        decree = ("rename", 0, (0, "a", 2), "a", "b")
        book = Book(rule, (0, "a", 1), decree)
        dates = [(0, "a", 1), (0, "b", 2), (1, "b", 1), (1, "d", 1), (2, "b", 1), (2, "b", 2)]
        self.check_course(book, [(1, decree, True)], dates)
        expected = [(rule, (0, "a", 2)), (((("b", 2),), (("b", 1), ("d", 1))), (0, "b", 2))]
        self.check_same(stack_on, [book, 1], expected)

    def test_a_present_date_of_another_month(self):
        decree = ("rename", 0, (1, "b", 1), "a", "c")
        dates = [(1, "a", 3), (1, "b", 1), (1, "b", 2), (2, "c", 1)]
        self.check_course(Book(R, (1, "a", 3), decree), [(1, decree, True)], dates)

    def test_forth_and_back(self):
        forth, back = ("rename", 0, D, "a", "c"), ("rename", 0, (1, "c", 1), "c", "a")
        book = Book(R, D, forth, back)
        self.check_same(events, [book], [(0, forth, D, (1, "c", 1), True), (0, back, (1, "c", 1), D, True)])
        self.assertEqual(len(stack_on(book, 0)), 3)


class StackTest(CourseTest):
    def test_lower_calendars_go_on(self):
        rule, back = ("rule", 0, (1, "a", 2), WEEK, (0, "a", 7)), ("restore", 0, (1, "a", 5))
        book = Book(R, D, rule, back)
        dates = [D, (0, "a", 7), (1, "a", 1), (1, "a", 2), (1, "a", 3), (1, "a", 4), (2, "a", 2), (2, "a", 3)]
        self.check_course(book, [(1, rule, True), (6, back, True)], dates)
        self.check_same(stack_on, [book, 5], [(R, (2, "a", 1)), (WEEK, (1, "a", 4))])
        self.check_same(stretches, [book], [(0, 0), (1, 5), (6, None)])

    def test_rules_are_shown_as_they_were_decreed(self):
        twice = WEEK + WEEK
        book = Book(R + R, D, ("rule", 0, D, twice, (5, "a", 1)))
        self.check_same(stack_on, [book, 0], [(R + R, D), (twice, (5, "a", 1))])

    def test_restore_of_what_was_restored(self):
        decrees = [jump(0, (1, "a", 2), (5, "a", 1)), jump(0, (5, "a", 2), (9, "a", 1)),
                   ("restore", 0, (9, "a", 2)), ("restore", 0, (5, "a", 3)), ("restore", 0, (1, "b", 1))]
        book = Book(R, D, *decrees)
        happened = [(day, decrees[at], at < 4) for at, day in enumerate((1, 2, 3, 3, 3))]
        self.check_course(book, happened, [D, (5, "a", 1), (9, "a", 1), (1, "b", 1), (1, "b", 2)])
        self.check_same(stretches, [book], [(0, 0), (1, 1), (2, 2), (3, None)])

    def test_a_calendar_of_one_day_a_year(self):
        book = Book(SMALLEST, (-3, "a", 1), jump(0, (0, "a", 1), (-2, "a", 1)))
        self.check_course(book, [(3, jump(0, (0, "a", 1), (-2, "a", 1)), True)],
                          [(year, "a", 1) for year in (-3, -2, -1, -2, -1, 0, 1)])
