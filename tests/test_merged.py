"""Merged and copied books [2, 9]."""

import itertools

from decreedays.book import Book
from decreedays.errors import TooMany, Unlike
from tests.case import Case, picture
from tests.samples import E, J, L, N, R, S

D = (1, "a", 1)
MANY = [("restore", made, (made, "a", 1)) for made in range(31)]


class MergedTest(Case):
    def check_merged(self, books, expected):
        """Check what the books make together in every order, and that only the result is new."""
        pictures = [picture(book) for book in books]
        for order in itertools.permutations(books):
            merged = order[0].merged(*order[1:])
            self.assertIs(type(merged), Book)
            self.assertTrue(merged == expected)
            self.assertEqual(picture(merged), picture(expected))
            merged.withdraw(*merged.recorded)
            self.assertEqual([picture(book) for book in books], pictures)
            copies = [book.copy() for book in order]
            merged = copies[0].merged(*copies[1:])
            for book in copies:
                book.record(*book.withdrawn)
                book.withdraw(*book.standing)
            self.assertEqual(picture(merged), picture(expected))

    def test_example(self):
        plain = Book(R, D)
        self.assertEqual(plain.merged(Book(R, D, J), Book(R, D, S)).standing, [J, S])
        error = self.call(plain.merged, Book(R, (1, "a", 2)))
        self.assertIs(type(error), Unlike)
        self.assertEqual(vars(error), {})

    def test_all_orders(self):
        empty = Book(R, D)
        self.check_merged([empty], empty)
        self.check_merged([empty, empty], empty)
        self.check_merged([Book(R, D, J), Book(R, D, J, S)], Book(R, D, J, S))
        self.check_merged([Book(R, D, J), empty, Book(R, D, S, withdrawn=[N])], Book(R, D, J, S, withdrawn=[N]))
        books = [Book(R, D, J, N), Book(R, D, withdrawn=[J]), Book(R, D, S, E, withdrawn=[S, N]), empty]
        self.check_merged(books, Book(R, D, J, N, S, E, withdrawn=[J, S, N]))

    def test_a_decree_withdrawn_in_one_book_only(self):
        merged = Book(R, D, J).merged(Book(R, D, J, withdrawn=[J]), Book(R, D, J))
        self.assertEqual([merged.recorded, merged.withdrawn, merged.standing], [[J], [J], []])

    def test_merged_books_can_be_changed(self):
        one, other = Book(R, D, J), Book(R, D, S)
        merged = one.merged(other)
        self.assertIs(merged.record(N), True)
        self.assertIs(merged.withdraw(J, E), True)
        self.assertEqual([merged.recorded, merged.withdrawn], [[J, N, S], [J, E]])
        self.assertEqual([one.recorded, one.withdrawn, other.recorded, other.withdrawn], [[J], [], [S], []])

    def test_with_itself(self):
        book = Book(R, D, J, withdrawn=[S])
        merged = book.merged(book, book)
        self.assertTrue(merged == book)
        merged.record(N)
        self.assertEqual(book.recorded, [J])

    def test_alone(self):
        book = Book(R, D, J, withdrawn=[S])
        merged = book.merged()
        self.assertTrue(merged == book)
        merged.withdraw(J)
        self.assertEqual(book.withdrawn, [S])

    def test_the_books_may_change_later(self):
        one, other = Book(R, D, J), Book(R, D, S)
        merged = one.merged(other)
        one.record(N)
        other.withdraw(J)
        self.assertEqual([merged.recorded, merged.withdrawn], [[J, S], []])

    def test_thirty_decrees_together(self):
        for one, other in ((10, 20), (15, 15), (0, 30), (29, 5)):
            books = [Book(R, D, *MANY[:one]), Book(R, D, *MANY[one:other]), Book(R, D, withdrawn=MANY[other:30])]
            expected = Book(R, D, *MANY[:max(one, other)], withdrawn=MANY[other:30])
            self.check_merged(books, expected)

    def test_thirty_one_decrees_together(self):
        for one in (0, 1, 15, 30):
            books = [Book(R, D, *MANY[:one]), Book(R, D, *MANY[one:20]), Book(R, D, withdrawn=MANY[max(one, 20):])]
            pictures = [picture(book) for book in books]
            for first, *others in itertools.permutations(books):
                self.check_raises(TooMany, "limit", 30, first.merged, *others)
            self.assertEqual([picture(book) for book in books], pictures)

    def test_books_that_begin_otherwise(self):
        other_starts = (Book(R, (1, "a", 2)), Book(R, (2, "a", 1)), Book(L, D), Book(R + R, D), Book(L, (1, "b", 3)))
        for other in other_starts:
            for books in itertools.permutations([Book(R, D), Book(R, D, J), other, Book(R, D, S)]):
                self.assertIs(type(self.call(books[0].merged, *books[1:])), Unlike)

    def test_unlike_comes_before_too_many(self):
        full, rest = Book(R, D, *MANY[:30]), Book(R, D, MANY[30])
        for books in itertools.permutations([full, rest, Book(L, D)]):
            self.assertIs(type(self.call(books[0].merged, *books[1:])), Unlike)
        self.assertIs(type(self.call(Book(L, D, *MANY[:30]).merged, rest)), Unlike)


class CopyTest(Case):
    def test_a_copy_stays_as_it_was(self):
        book = Book(L, (1, "b", 3), J, N, withdrawn=[N, S])
        copy = book.copy()
        self.assertIs(type(copy), Book)
        self.assertTrue(copy == book)
        before = picture(copy)
        book.record(S, E)
        book.withdraw(J)
        self.assertEqual(picture(copy), before)
        self.assertFalse(copy == book)

    def test_the_book_stays_when_its_copy_changes(self):
        book = Book(R, D, J)
        before = picture(book)
        copy = book.copy()
        copy.record(S)
        copy.withdraw(J)
        self.assertEqual(picture(book), before)

    def test_copies_of_empty_and_full_books(self):
        for book in (Book(R, D), Book(R, D, *MANY[:30]), Book(R, D, withdrawn=MANY[:30])):
            self.assertTrue(book.copy() == book)
            self.assertEqual(picture(book.copy()), picture(book))
