"""The texts of books [22]."""

from decreedays.book import Book
from decreedays.errors import NoText
from tests import text_reference
from tests.case import Case, picture
from tests.samples import E, J, L, LONGEST, N, ODD, R, S, SMALLEST, STRANGE, WORDS, mistyped, number, rewritten
from tests.scenarios import books

D = (1, "a", 1)
MANY = [("restore", made, (made, "a", 1)) for made in range(31)]
BEGINNING = "1 a 1 a:3 b:2"
JUMP = "jump 0 1 b 2 3 a 2"
RESTORE = "restore 2 3 b 1"
BOOKS = (
    Book(R, D), Book(R, D, J), Book(R, D, J, S, N, withdrawn=[S, E]), Book(L, (-1, "b", 3), withdrawn=[E]),
    Book(ODD, (10 ** 50 * 3 + 1, "b", 60), E, ("restore", 10 ** 59, (-(10 ** 50), "a", 1)), withdrawn=[N]),
)
PARTS = (
    "", " ", BEGINNING, "record", "withdraw", "record ", JUMP, "record " + JUMP, "withdraw " + JUMP, "record  " + JUMP,
    "record " + JUMP + " ", " record " + JUMP, "record restore 2 3 b 1", "withdraw restore 2 3 b 1", "Record " + JUMP,
    "record rename 0 2 a 1 a c", "record rename 0 2 a 1 a a", "record record " + JUMP, "strike " + JUMP,
    "record rule 0 1 a 1 1 a 1 a:3 a:3", "record jump 0 1 b 2 3 a", "withdraw restore 2 3 b 1 /", "1 a 1", "1 a 1 /",
    "1 a 4 a:3 b:2", "1 a 1 a:3 a:3", "x a 1 a:3 b:2", "1 a 61 a:3 b:2", "1 a 1 a:3 / / b:2", ";", "a:3 b:2",
)


class WrittenTest(Case):
    def test_texts(self):
        self.assertEqual(str(Book(R, D)), BEGINNING)
        self.assertEqual(str(Book(R, D, J)), f"{BEGINNING}; record {JUMP}")
        self.assertEqual(str(Book(L, (-1, "b", 3), withdrawn=[S])), f"-1 b 3 a:3 b:2 / a:3 b:3; withdraw {RESTORE}")
        text = f"{BEGINNING}; record {JUMP}; record rename 0 2 a 1 a c; record {RESTORE}"
        text += f"; withdraw {JUMP}; withdraw rule 4 2 b 1 3 b 3 a:3 b:2 / a:3 b:3"
        self.assertEqual(str(Book(R, D, S, N, J, N, withdrawn=[E, J])), text)

    def test_decrees_ascend_as_tuples_not_as_texts(self):
        two, ten = ("restore", 2, D), ("restore", 10, D)
        self.assertEqual(str(Book(R, D, ten, two)), f"{BEGINNING}; record restore 2 1 a 1; record restore 10 1 a 1")

    def test_written_and_read_back(self):
        for book in BOOKS + (Book(LONGEST, (0, "m" * 8, 1), *MANY[:15], withdrawn=MANY[10:30]), *books(22, 300)):
            text = str(book)
            other = self.call(Book.read, text)
            self.assertIs(type(other), Book)
            self.assertTrue(other == book)
            self.assertEqual([picture(other), str(other)], [picture(book), text])

    def test_integers_of_any_length(self):
        long = number("7" * 9000)
        book = Book(SMALLEST, (-long, "a", 1), ("restore", long, (long, "a", 1)))
        text = f"-{'7' * 9000} a 1 a:1; record restore {'7' * 9000} {'7' * 9000} a 1"
        self.assertTrue(str(book) == text)
        self.assertTrue(Book.read(text) == book)

    def test_books_that_are_read_share_no_state(self):
        text = str(BOOKS[2])
        one, other = Book.read(text), Book.read(text=text)
        one.withdraw(J)
        self.assertEqual(str(other), text)


class ReadTest(Case):
    def check_read(self, text):
        """Check that a text is read, or refused at its place, as the patterns tell."""
        try:
            start, rule, recorded, withdrawn = text_reference.read_book(text)
        except text_reference.Wrong as wrong:
            self.check_place(wrong.args[0], Book.read, text)
            return
        self.check_same(Book.read, [text], Book(rule, start, *recorded, withdrawn=withdrawn))
        self.assertEqual(str(Book.read(text)), text)

    def test_examples(self):
        self.assertTrue(Book.read("1 a 1 a:3 b:2; record jump 0 1 b 2 3 a 2") == Book(R, D, J))
        self.check_place(1, Book.read, "1 a 1 a:3 b:2; record jump 0 1 b 2")
        self.check_place(0, Book.read, "")

    def test_other_values_than_texts(self):
        for thing in STRANGE + (10, J, R, BOOKS[1], [BEGINNING], (BEGINNING,), BEGINNING.encode()):
            if not isinstance(thing, str):
                self.assertIs(type(self.call(Book.read, thing)), NoText)
                self.check_place(-1, Book.read, thing)

    def test_texts_of_all_kinds(self):
        for thing in STRANGE + WORDS:
            if isinstance(thing, str):
                self.check_place(0, Book.read, thing)

    def test_right_parts_that_are_no_book(self):
        for text in ("1 a 4 a:3 b:2", "1 c 1 a:3 b:2", "1 a 1 a:3 a:2", "2 b 3 a:3 b:2 / a:3 b:3",
                     "1 a 1 a:1" + " / a:1" * 20):
            self.check_place(1, Book.read, text)
            self.check_place(3, Book.read, f"{text}; record {JUMP}; withdraw {JUMP}")
            # The form of a later part comes before what the first one means.
            self.check_place(2, Book.read, f"{text}; record {JUMP}; strike {JUMP}")
        for parts in (f"withdraw {JUMP}; record {JUMP}", f"record {RESTORE}; record {JUMP}",
                      f"withdraw {RESTORE}; withdraw {JUMP}", f"record {JUMP}; record {JUMP}",
                      f"withdraw {JUMP}; withdraw {JUMP}", "record restore 10 1 a 1; record restore 2 1 a 1"):
            self.check_place(3, Book.read, f"{BEGINNING}; {parts}")

    def test_a_decree_is_one_not_only_by_its_form(self):
        self.check_place(1, Book.read, f"{BEGINNING}; record rename 0 1 a 1 b b; record {JUMP}")
        self.check_place(2, Book.read, f"{BEGINNING}; record {JUMP}; withdraw rule 0 1 a 1 1 a 2 a:1")

    def test_thirty_and_thirty_one_decrees(self):
        for place in (0, 1, 15, 30):
            parts = [f"record restore {made} {made} a 1" for made in range(place)]
            parts += [f"withdraw restore {made} {made} a 1" for made in range(place, 31)]
            self.check_place(32, Book.read, "; ".join([BEGINNING, *parts]))
            expected = Book(R, D, *MANY[:place], withdrawn=MANY[place:30])
            self.check_same(Book.read, ["; ".join([BEGINNING, *parts[:30]])], expected)
        both = [f"{word} restore {made} {made} a 1" for word in ("record", "withdraw") for made in range(10, 40)]
        book = Book.read("; ".join([BEGINNING, *both]))
        self.assertEqual([len(book.recorded), book.withdrawn], [30, book.recorded])

    def test_empty_parts_and_words(self):
        text = f"{BEGINNING}; record {JUMP}; withdraw {RESTORE}"
        self.check_place(3, Book.read, text + "; ")
        self.check_place(2, Book.read, text + ";")
        self.check_place(2, Book.read, text + " ")
        self.check_place(0, Book.read, " " + text)
        self.check_place(0, Book.read, "; " + text)
        self.check_place(1, Book.read, text.replace("; record", "; ; record"))
        self.check_place(1, Book.read, text.replace("; record", ";  record"))
        self.check_place(0, Book.read, text.replace("; record", " ; record"))
        self.check_place(0, Book.read, text.replace("; record", ";record"))
        for place in range(len(text)):
            if text[place] == " ":
                self.check_read(text[:place] + " " + text[place:])

    def test_one_part_changed_left_out_put_in_doubled_or_exchanged(self):
        for book in BOOKS:
            for text in rewritten(str(book), "; ", PARTS):
                self.check_read(text)

    def test_one_word_changed_left_out_put_in_doubled_or_exchanged(self):
        for book in BOOKS:
            for text in rewritten(str(book), " ", WORDS):
                self.check_read(text)

    def test_one_sign_changed(self):
        for book in BOOKS:
            for text in mistyped(str(book)):
                self.check_read(text)
