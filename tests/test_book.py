"""Books: what is recorded, withdrawn and standing [2, 9]."""

import itertools
import random

from decreedays.book import Book
from decreedays.errors import NoDate, NoDecree, NoRule, TooMany
from tests.case import Case, picture
from tests.samples import E, J, L, LONGEST, N, ODD, R, S, SMALLEST, STRANGE

D = (1, "a", 1)
MANY = [("restore", made, (made, "a", 1)) for made in range(40)]
NO_DECREES = STRANGE + (R, D, "restore 2 3 b 1", list(S), ("rule", 0, D, L, (2, "b", 3)), ("restore", True, D), S + S)


class BookTest(Case):
    def check_book(self, book, recorded, withdrawn):
        """Check all that a book tells about decrees recorded and withdrawn in whatever order and number."""
        standing = sorted(decree for decree in set(recorded) if decree not in withdrawn)
        self.assertEqual(picture(book.recorded), picture(sorted(set(recorded))))
        self.assertEqual(picture(book.withdrawn), picture(sorted(set(withdrawn))))
        self.assertEqual(picture(book.standing), picture(standing))
        self.assertEqual(len(book), len(standing))
        self.assertIs(bool(book), bool(standing))
        self.assertEqual(repr(book), f"Book({len(standing)} of {len(set(recorded))})")


class MadeTest(BookTest):
    def test_recorded_and_withdrawn_decrees(self):
        decrees = [J, S, N, E]
        for many in range(4):
            for recorded in itertools.product(decrees, repeat=many):
                for withdrawn in ((), [J], (S, J), [S, S], [N, E, J, S], (E,)):
                    self.check_book(Book(R, D, *recorded, withdrawn=withdrawn), recorded, withdrawn)

    def test_first_rule_and_first_date(self):
        for rule, start in ((R, D), (L, (-3, "b", 3)), (ODD, (10 ** 50 * 3 + 1, "b", 60)), (LONGEST, (0, "m" * 8, 1))):
            for book in (Book(rule, start), Book(start=start, rule=rule), Book(rule, start=start, withdrawn=[J])):
                self.assertEqual(picture(book.first_rule), picture(rule))
                self.assertEqual(picture(book.first_date), picture(start))

    def test_nothing_withdrawn_when_left_out(self):
        self.check_book(Book(R, D, J, S, J), [J, S], [])
        self.check_book(Book(R, D), [], [])

    def test_decrees_are_sorted_as_tuples(self):
        later = ("jump", 1, (0, "b", 2), (3, "a", 2))
        self.assertEqual(Book(R, D, S, N, later, E, J).recorded, [J, later, N, S, E])

    def test_limit(self):
        self.assertEqual([Book.LIMIT, Book(R, D).LIMIT], [30, 30])
        for place in range(31):
            book = Book(R, D, *MANY[:place], withdrawn=MANY[place:30])
            self.check_book(book, MANY[:place], MANY[place:30])
            self.check_raises(TooMany, "limit", 30, Book, R, D, *MANY[:place], withdrawn=MANY[place:31])
        self.check_book(Book(R, D, *MANY[:30], *MANY[:30], withdrawn=MANY[:30]), MANY[:30], MANY[:30])
        self.check_raises(TooMany, "limit", 30, Book, R, D, *MANY)

    def test_no_rule(self):
        for thing in STRANGE + (list(L), R[0], D, R * 21):
            self.check_raises(NoRule, "rule", thing, Book, thing, D)
            self.check_raises(NoRule, "rule", thing, Book, thing, thing, thing, *MANY, withdrawn=[thing])

    def test_no_date(self):
        for thing in STRANGE + ((1, "a", 4), (1, "c", 1), (0, "b", 3), [1, "a", 1], R):
            self.check_raises(NoDate, "date", thing, Book, R, thing)
            self.check_raises(NoDate, "date", thing, Book, R, thing, thing, *MANY, withdrawn=[thing])
        start = (2, "b", 3)
        self.check_raises(NoDate, "date", start, Book, L, start)

    def test_no_decree(self):
        for thing in NO_DECREES:
            other = ["other"]
            self.check_raises(NoDecree, "decree", thing, Book, R, D, thing)
            self.check_raises(NoDecree, "decree", thing, Book, R, D, J, thing, other, S)
            self.check_raises(NoDecree, "decree", thing, Book, R, D, withdrawn=[thing])
            self.check_raises(NoDecree, "decree", thing, Book, R, D, J, withdrawn=(J, thing, other))
            self.check_raises(NoDecree, "decree", thing, Book, R, D, J, thing, withdrawn=[other])
            self.check_raises(NoDecree, "decree", thing, Book, R, D, *MANY, thing, withdrawn=[other])
            self.check_raises(NoDecree, "decree", thing, Book, R, D, *MANY, withdrawn=MANY + [thing])

    def test_later_changes_to_the_arguments(self):
        decrees = [J, S]
        book = Book(R, D, J, N, withdrawn=decrees)
        decrees.append(N)
        decrees.remove(S)
        self.check_book(book, [J, N], [J, S])


class ListsTest(BookTest):
    def test_lists_are_new_each_time(self):
        book = Book(R, D, J, S, N, withdrawn=[N, E])
        for _ in range(2):
            lists = [book.recorded, book.withdrawn, book.standing]
            for one in lists:
                one.append(E)
                one.reverse()
                del one[0]
            self.check_book(book, [J, S, N], [N, E])

    def test_a_list_stays_when_the_book_changes(self):
        book = Book(R, D, J)
        lists = [book.recorded, book.withdrawn, book.standing]
        book.record(S)
        book.withdraw(J)
        self.assertEqual(lists, [[J], [], [J]])

    def test_properties_cannot_be_assigned(self):
        for name in ("first_rule", "first_date", "recorded", "withdrawn", "standing"):
            self.assertIsInstance(vars(Book)[name], property)


class RecordTest(BookTest):
    def test_example(self):
        book = Book(R, D)
        answers = [book.withdraw(J), book.record(J), book.record(S, J), book.record(S), book.record()]
        self.assertEqual(picture(answers), picture([False, False, True, False, False]))

    def test_whether_the_standing_decrees_change(self):
        rand = random.Random(9)
        decrees = [J, S, N, E, MANY[0], MANY[1]]
        for _ in range(300):
            book, recorded, withdrawn = Book(R, D), [], []
            for _ in range(12):
                some = [rand.choice(decrees) for _ in range(rand.randint(0, 3))]
                before = set(recorded) - set(withdrawn)
                if rand.random() < 0.6:
                    recorded += some
                    answer = book.record(*some)
                else:
                    withdrawn += some
                    answer = book.withdraw(*some)
                self.assertIs(answer, set(recorded) - set(withdrawn) != before)
                self.check_book(book, recorded, withdrawn)

    def test_a_decree_stays_withdrawn(self):
        book = Book(R, D)
        self.assertEqual([book.withdraw(J), book.record(J), book.record(J)], [False, False, False])
        self.check_book(book, [J], [J])
        answers = [book.record(S), book.withdraw(S), book.withdraw(S), book.record(S)]
        self.assertEqual(answers, [True, True, False, False])
        self.check_book(book, [J, S], [J, S])

    def test_no_decree_changes_nothing(self):
        for thing in NO_DECREES:
            for call in ("record", "withdraw"):
                book = Book(R, D, J, withdrawn=[S])
                for args in ((thing,), (N, thing), (N, E, thing, ["other"]), (thing, N), (N, thing, *MANY)):
                    self.check_raises(NoDecree, "decree", thing, getattr(book, call), *args)
                    self.check_book(book, [J], [S])

    def test_too_many_changes_nothing(self):
        for recorded in range(0, 31, 5):
            for call in ("record", "withdraw"):
                book = Book(R, D, *MANY[:recorded], withdrawn=MANY[recorded:30])
                for args in ((MANY[30],), (MANY[0], MANY[30]), (MANY[30], MANY[31]), MANY):
                    self.check_raises(TooMany, "limit", 30, getattr(book, call), *args)
                    self.check_book(book, MANY[:recorded], MANY[recorded:30])

    def test_decrees_that_the_book_has_are_not_too_many(self):
        book = Book(R, D, *MANY[:15], withdrawn=MANY[15:30])
        self.assertIs(book.record(*MANY[10:30], *MANY[:30]), False)
        self.check_book(book, MANY[:30], MANY[15:30])
        self.assertIs(book.withdraw(*MANY[5:20]), True)
        self.check_book(book, MANY[:30], MANY[5:30])

    def test_thirty_one_at_once_but_thirty_distinct(self):
        book = Book(R, D)
        self.assertIs(book.record(*MANY[:30], MANY[0]), True)
        self.check_raises(TooMany, "limit", 30, book.record, MANY[30])
        self.check_book(book, MANY[:30], [])

    def test_every_order_of_the_calls(self):
        calls = [("record", J), ("record", S), ("withdraw", S), ("withdraw", N), ("record", N), ("record", J)]
        for order in itertools.permutations(calls):
            book = Book(R, D)
            for call, decree in order:
                getattr(book, call)(decree)
            self.check_book(book, [J, S, N], [S, N])
            self.assertTrue(book == Book(R, D, N, S, J, withdrawn=[N, S]))


class EqualityTest(BookTest):
    def check_equal(self, one, other, expected):
        """Check that both signs tell whether the two are equal, both ways."""
        for first, second in ((one, other), (other, one)):
            self.assertIs(first == second, expected)
            self.assertIs(first != second, not expected)

    def test_books_that_differ_in_one_thing(self):
        books = [
            Book(R, D), Book(R, (1, "a", 2)), Book(L, D), Book(R + R, D), Book(R, D, J), Book(R, D, withdrawn=[J]),
            Book(R, D, J, withdrawn=[J]), Book(R, D, J, S), Book(R, D, J, withdrawn=[S]), Book(R, D, S),
            Book(R, D, J, S, withdrawn=[S]), Book(SMALLEST, D), Book(R, D, MANY[0]), Book(R, D, MANY[1]),
        ]
        for one, other in itertools.product(range(len(books)), repeat=2):
            self.check_equal(books[one], books[other], one == other)

    def test_equal_books(self):
        self.check_equal(Book(R, D, J, S, J, withdrawn=[S, N]), Book(R, D, S, J, withdrawn=(N, S, N)), True)
        book = Book(R, D)
        book.record(S)
        book.withdraw(N)
        self.check_equal(book, Book(R, D, S, withdrawn=[N]), True)

    def test_anything_else(self):
        for book in (Book(R, D), Book(R, D, J)):
            for thing in STRANGE + (R, D, J, str(book), repr(book), book.standing, Book, object(), 0, 1, {}, set()):
                self.check_equal(book, thing, False)

    def test_a_book_in_a_list(self):
        self.assertTrue(Book(R, D, J) in [None, 1, Book(R, D), Book(R, D, J)])
        self.assertFalse(Book(R, D, J) in [None, 1, Book(R, D), J])
