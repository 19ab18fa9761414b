"""Certificates of dates and of lost decrees, and which values are certificates [2, 21]."""

import random
from collections import Counter

from decreedays.book import Book
from decreedays.certificates import date_certificate, lost_certificate
from decreedays.checker import holds
from decreedays.errors import NoDay, NoDecree
from tests import reference
from tests.case import Case, picture
from tests.samples import E, J, L, N, PIECES, R, S, STRANGE, nested, spoiled
from tests.scenarios import books
from tests.simulation import Walker, expected_date, expected_fate
from tests.test_days import BOOK, D, NO_DAYS, PLAIN

FAR = 10 ** 50


def steps_of(book):
    """Return the steps of all events."""
    walker = Walker(book)
    walker.go_to_the_end()
    return [(event[0], event[1], event[4]) for event in walker.events]


def expected_certificate(book, kind, subject):
    """Return the certificate of this kind for a day or a decree, or None if there is none."""
    if kind == "date" and type(subject) is int and subject >= 0:
        steps = [step for step in steps_of(book) if step[0] <= subject]
        return ("date", subject, expected_date(book, subject), steps)
    if kind == "lost" and reference.decree(subject) and subject in book.standing:
        walker = Walker(book)
        walker.go_to_the_end()
        if expected_fate(walker, subject)[0] == "lost":
            return ("lost", subject, steps_of(book))
    return None


def certificates(book, days):
    """Return all certificates of lost decrees, and those for some days."""
    found = [("date", day) for day in days] + [("lost", decree) for decree in book.standing]
    found = [expected_certificate(book, kind, subject) for kind, subject in found]
    return [certificate for certificate in found if certificate is not None]


def exchanged(thing):
    """Yield the thing with True in place of one 1, 1 in place of one True, and likewise False and 0, at any depth."""
    if thing in (0, 1) and isinstance(thing, int):
        yield int(thing) if isinstance(thing, bool) else bool(thing)
    if isinstance(thing, (tuple, list)):
        for place, part in enumerate(thing):
            for other in exchanged(part):
                yield type(thing)([*thing[:place], other, *thing[place + 1:]])


def changed(rand, thing):
    """Return the thing with one part, at any depth, replaced, left out, doubled, moved or made another kind of list."""
    if not isinstance(thing, (tuple, list)) or not thing:
        return rand.choice(PIECES)
    parts = list(thing)
    place = rand.randrange(len(parts))
    way = rand.randrange(9)
    if way < 4:
        parts[place] = changed(rand, parts[place])
    elif way == 4:
        parts.insert(place, parts[place])
    elif way == 5:
        del parts[place]
    elif way == 6:
        parts.insert(rand.randrange(len(parts)), parts.pop(place))
    elif way == 7:
        parts[place] = rand.choice([0, 1, True, False, J, S, D, parts[0]])
    else:
        return tuple(parts) if isinstance(thing, list) else parts
    return type(thing)(parts)


class MadeTest(Case):
    def check_certificates(self, book, days):
        """Check the certificates of the book for some days and for all standing decrees."""
        steps = steps_of(book)
        for day in days:
            expected = ("date", day, expected_date(book, day), [step for step in steps if step[0] <= day])
            self.check_same(date_certificate, [book, day], expected)
            self.check_answer(holds, [book, expected], True)
        walker = Walker(book)
        walker.go_to_the_end()
        lost = 0
        for decree in book.standing:
            is_lost = expected_fate(walker, decree)[0] == "lost"
            self.check_same(lost_certificate, [book, decree], ("lost", decree, steps) if is_lost else None)
            self.check_answer(holds, [book, ("lost", decree, steps)], is_lost)
            lost += is_lost
        return lost

    def test_examples(self):
        self.check_same(date_certificate, [BOOK, 5], ("date", 5, (3, "a", 3), [(4, J, True)]))
        self.check_same(lost_certificate, [BOOK, N], ("lost", N, [(4, J, True), (6, S, True)]))
        self.check_same(lost_certificate, [BOOK, J], None)
        self.check_answer(holds, [BOOK, ("date", 3, (1, "b", 1), [])], True)

    def test_up_to_and_including_the_day(self):
        for day, many in ((3, 0), (4, 1), (5, 1), (6, 2), (10 ** 60, 2)):
            self.assertEqual(len(date_certificate(BOOK, day)[3]), many)

    def test_void_events(self):
        void = ("restore", 0, (1, "a", 2))
        self.check_same(date_certificate, [Book(R, D, void), 1], ("date", 1, (1, "a", 2), [(1, void, False)]))
        self.check_same(lost_certificate, [Book(R, D, void), void], None)

    def test_near_and_far(self):
        lost = 0
        for years in ((-1, 0, 1), (0, FAR), (0, 10 ** 20, -FAR)):
            for book in books(f"certificates {years}", 80, years=years, most=12):
                lost += self.check_certificates(book, (0, 1, 4, 11, 30, 10 ** 20, 10 ** 60 - 1, 10 ** 999))
        self.assertTrue(lost > 200, lost)

    def test_no_day(self):
        for thing in NO_DAYS:
            self.check_raises(NoDay, "day", thing, date_certificate, BOOK, thing)
            self.check_raises(NoDay, "day", thing, date_certificate, PLAIN, thing)

    def test_no_standing_decree(self):
        book = Book(R, D, J, S, N, E, withdrawn=[N])
        for thing in STRANGE + (N, ("jump", False, *J[2:]), list(J), J[:3], "restore 2 3 b 1", L, D):
            self.check_raises(NoDecree, "decree", thing, lost_certificate, book, thing)
            self.check_raises(NoDecree, "decree", thing, lost_certificate, PLAIN, thing)

    def test_what_is_returned_belongs_to_the_caller(self):
        for function, subject in ((date_certificate, 10), (lost_certificate, N)):
            expected = picture(function(BOOK, subject))
            found = function(BOOK, subject)
            found[-1].append(found[-1].pop(0))
            self.assertEqual(picture(function(BOOK, subject)), expected)
            self.assertFalse(holds(BOOK, found))
            found[-1].clear()
            self.assertEqual(picture(function(BOOK, subject)), expected)

    def test_keywords(self):
        self.assertEqual(date_certificate(day=3, book=BOOK), ("date", 3, (1, "b", 1), []))
        self.assertEqual(lost_certificate(decree=J, book=BOOK), None)
        self.assertIs(holds(thing=("date", 3, (1, "b", 1), []), book=BOOK), True)


class HoldsTest(Case):
    def check_holds(self, book, thing):
        """Check whether a value is a certificate of the book. Return it."""
        expected = None
        if type(thing) is tuple and len(thing) > 1 and type(thing[0]) is str:
            expected = expected_certificate(book, thing[0], thing[1])
        is_one = expected is not None and picture(thing) == picture(expected)
        self.check_answer(holds, [book, thing], is_one)
        return is_one

    def test_values_of_all_kinds(self):
        for thing in PIECES + tuple(nested(depth) for depth in range(11)):
            for book in (PLAIN, BOOK):
                self.check_answer(holds, [book, thing], False)
                for kind in ("date", "lost"):
                    self.check_answer(holds, [book, (kind, thing)], False)
                    self.check_answer(holds, [book, (kind, thing, thing)], False)
                    self.check_answer(holds, [book, (kind, thing, thing, thing)], False)
                    self.check_answer(holds, [book, (thing, kind, [])], False)

    def test_one_part_changed(self):
        book = Book(R, (1, "a", 1), J, S, N, ("restore", 0, (1, "a", 3)))
        held = 0
        for certificate in certificates(book, (1, 6)):
            for thing in spoiled(certificate):
                held += self.check_holds(book, thing)
        # Some parts were replaced by themselves.
        self.assertTrue(0 < held < 100, held)

    def test_booleans_and_integers(self):
        many = 0
        book = Book(R, (1, "a", 1), J, S, N, ("restore", 1, (1, "a", 2)), ("restore", 0, (0, "a", 1)))
        for certificate in certificates(book, (0, 1, 2, 6, 11)):
            self.check_answer(holds, [book, certificate], True)
            for thing in exchanged(certificate):
                self.check_answer(holds, [book, thing], False)
                many += 1
        self.assertTrue(many > 40, many)

    def test_two_parts_changed(self):
        rand, answers = random.Random(32), Counter()
        for book in books("holds", 40, most=8):
            for certificate in certificates(book, (0, 1, 7, 20)):
                for _ in range(30):
                    thing = changed(rand, changed(rand, certificate))
                    answers[self.check_holds(book, thing)] += 1
        self.assertTrue(answers[True] > 10 and answers[False] > 5000, answers)

    def test_steps_in_another_order_left_out_and_doubled(self):
        for book in books("holds steps", 60, most=12):
            for certificate in certificates(book, (30,)):
                *head, steps = certificate
                for place in range(len(steps)):
                    left, doubled = steps[:place] + steps[place + 1:], steps[:place] + steps[place:place + 1] * 2
                    doubled += steps[place + 1:]
                    for other in (left, doubled, left + [steps[place]], [steps[place]] + left, tuple(steps)):
                        self.check_answer(holds, [book, (*head, other)], other == steps)

    def test_certificates_of_other_books(self):
        known = books("holds others", 60)
        for book, other in zip(known, known[1:]):
            for certificate in certificates(book, (0, 3, 10)):
                self.check_holds(other, certificate)

    def test_a_certificate_ends_with_a_change_of_the_book(self):
        book = Book(R, D, J, S, N)
        early, late, lost = date_certificate(book, 3), date_certificate(book, 5), lost_certificate(book, N)
        book.withdraw(J)
        self.assertEqual([holds(book, thing) for thing in (early, late, lost)], [True, False, False])

    def test_returned_values_of_any_size(self):
        book = Book(R, D, ("jump", 0, (10 ** 70, "a", 1), (-(10 ** 70), "a", 1)))
        certificate = date_certificate(book, 10 ** 80)
        self.check_answer(holds, [book, certificate], True)
        self.check_answer(holds, [book, (*certificate[:3], certificate[3] * 3000)], False)
        self.check_answer(holds, [book, ("date", 10 ** 4200, *certificate[2:])], False)
        self.check_answer(holds, [book, date_certificate(book, 10 ** 4000)], True)
