"""When two books differ and agree, however far and with long rounds [3, 17]."""

import itertools
import random
from collections import Counter
from math import gcd, lcm

from decreedays.book import Book
from decreedays.compare import agree_from, differing, parted, reach
from decreedays.course import date_on, events
from tests.case import Case, picture
from tests.samples import L, ODD, R, SMALLEST, date_before, round_days
from tests.scenarios import books
from tests.simulation import expected_date, without
from tests.test_compare import neighbours, there_and_back
from tests.test_days import D
from tests.twins import expected_agree_from, expected_differing, expected_parted

FAR = 10 ** 50
ROUNDS = 10 ** 20
LETTERS = "abcdefghijklm"


def dates_from(rule, start):
    """Yield the dates from a date on, year by year."""
    is_there = False
    for year in itertools.count(start[0]):
        for name, days in rule[year % len(rule)]:
            for day in range(1, days + 1):
                is_there = is_there or (year, name, day) == start
                if is_there:
                    yield (year, name, day)


def back(rule, date, days):
    """Return the date so many days before: whole rounds at once, the others one by one."""
    rounds, rest = divmod(days, round_days(rule))
    date = (date[0] - rounds * len(rule), *date[1:])
    for _ in range(rest):
        date = date_before(rule, date)
    return date


def differing_days(one, other, many):
    """Return the days among so many on which two books without decrees differ."""
    pairs = zip(dates_from(one.first_rule, one.first_date), dates_from(other.first_rule, other.first_date))
    return [day for day, (date, other_date) in enumerate(itertools.islice(pairs, many)) if date != other_date]


def long_rule(rand, years):
    """Return a rule of so many years, of up to thirteen months of up to sixty days."""
    kinds = []
    for _ in range(rand.randint(1, 3)):
        names = rand.sample(LETTERS, rand.choice((1, 2, 5, 13)))
        kinds.append(tuple((name, rand.choice((1, 2, 3, 10, 60))) for name in names))
    return tuple(rand.choice(kinds) for _ in range(years))


def altered(rand, rule):
    """Return the rule with one month longer or shorter, one called otherwise, or two of a year exchanged."""
    place = rand.randrange(len(rule))
    months = list(rule[place])
    at = rand.randrange(len(months))
    name, days = months[at]
    free = [letter for letter in LETTERS + "z" if letter not in dict(months)]
    months[at] = rand.choice(((name, days + 1 if days < 60 else 59), (rand.choice(free), days)))
    if rand.random() < 0.5:
        months = list(rule[place])[::-1]
    return rule[:place] + (tuple(months),) + rule[place + 1:]


def common_start(rule, other):
    """Return a first day of a month that both rules have, or None."""
    for year in range(lcm(len(rule), len(other))):
        for name, days in rule[year % len(rule)]:
            if name in dict(other[year % len(other)]):
                return (year, name, 1)
    return None


class LongRoundsTest(Case):
    def check_days(self, one, other, many, is_settled=True):
        """Check two books without decrees for so many days, and, if it is settled then, for ever."""
        days = differing_days(one, other, many)
        first = days[0] if days else None
        for pair in ((one, other), (other, one)):
            if days or is_settled:
                self.check_same(parted, pair, first)
                self.check_same(agree_from, pair, None if days else 0)
            for last in (0, many // 3, many - 1):
                self.assertEqual(differing(*pair, last=last), sum(day <= last for day in days))
        return days

    def test_long_rules(self):
        rand, seen = random.Random(28), Counter()
        for _ in range(60):
            years, more = rand.choice(((20, 20), (20, 10), (19, 20), (13, 20), (7, 14), (12, 18), (1, 17)))
            rule = long_rule(rand, years)
            other = (rule * 20)[:more] if rand.random() < 0.4 else altered(rand, (rule * 20)[:more])
            start = common_start(rule, other)
            if start is None:
                continue
            whole = lcm(years, more)
            period = whole // years * round_days(rule)
            days = self.check_days(Book(rule, start), Book(other, start), min(period + 50, 120000), period < 120000)
            seen[bool(days), period == whole // more * round_days(other)] += 1
        self.assertTrue(min(seen[key] for key in ((True, True), (True, False), (False, True))) > 3, seen)

    def word(self, one, other, equal):
        """Return as many letters as agree in two rounds of so many years, if the letters so far apart are equal."""
        groups = list(range(equal))
        for step in (one, other):
            for place in range(equal - step):
                old, new = groups[place + step], groups[place]
                groups = [new if group == old else group for group in groups]
        kinds = {group: number for number, group in enumerate(dict.fromkeys(groups))}
        return [kinds[group] for group in groups]

    def test_rounds_that_agree_for_almost_as_long_as_both_together(self):
        for one, other in ((19, 20), (13, 20), (2, 3), (7, 9), (11, 18), (17, 20), (5, 13)):
            equal = one + other - 2
            letters = self.word(one, other, equal)
            self.assertEqual([sorted(set(letters)), gcd(one, other)], [[0, 1], 1])
            for years in (((("a", 2), ("b", 1)), (("b", 1), ("a", 2))), ((("a", 2), ("b", 1)), (("a", 2), ("c", 1)))):
                rules = [tuple(years[letter] for letter in (letters * 2)[:many]) for many in (one, other)]
                start = (0, years[letters[0]][0][0], 1)
                pair = [Book(rule, start) for rule in rules]
                days = self.check_days(*pair, 3 * one * other)
                # The years have three days; for so many years all are the same.
                self.assertTrue(3 * equal <= days[0] < 3 * equal + 3, days[:3])
                period = 3 * one * other
                many = len(days)
                for times in (1, 7, 10 ** 29):
                    self.assertEqual(differing(*pair, last=period * times - 1), many * times)
                    more = sum(day < period // 2 for day in days)
                    self.assertEqual(differing(*pair, last=period * times + period // 2 - 1), many * times + more)

    def test_years_that_are_exchanged(self):
        # A month that is moved behind another one has the same days only where both numbers agree.
        one = Book(((("a", 5), ("b", 4), ("c", 2)),), (0, "a", 1))
        other = Book(((("b", 4), ("a", 5), ("c", 2)),), (0, "b", 1))
        self.assertEqual(self.check_days(one, other, 33), [day for day in range(33) if day % 11 < 9])

    def test_a_start_on_any_day(self):
        for rule, other in itertools.product((R, L, ODD, SMALLEST, R + L), repeat=2):
            for number, more in itertools.product((0, 3, 7), repeat=2):
                one, two = Book(rule, self.nth(rule, number)), Book(other, self.nth(other, more))
                period = max(len(rule), len(other)) * round_days(rule) * 2
                self.check_days(one, two, max(period, 400))

    def nth(self, rule, number):
        """Return the date so many days after the first one of year 0."""
        return next(itertools.islice(dates_from(rule, (0, rule[0][0][0], 1)), number, None))


class MeetingTest(Case):
    def check_meeting(self, rule, other, date, day):
        """Check two calendars that both give a date to a far day."""
        one, two = Book(rule, back(rule, date, day)), Book(other, back(other, date, day))
        self.assertEqual([date_on(one, day), date_on(two, day)], [date, date])
        years = lcm(len(rule), len(other))
        width = 2 * years * (max(round_days(rule), round_days(other)) + 1)
        begin, behind = day - width, day + width
        mine, theirs = dates_from(rule, back(rule, date, width)), dates_from(other, back(other, date, width))
        agreeing = [begin + place for place, (mine_date, their_date)
                    in enumerate(itertools.islice(zip(mine, theirs), behind - begin)) if mine_date == their_date]
        self.assertTrue(day in agreeing)
        self.assertTrue(begin + width // 4 < agreeing[0] and agreeing[-1] < behind - width // 4)
        for pair in ((one, two), (two, one)):
            self.check_same(parted, pair, 0)
            self.check_same(agree_from, pair, None)
            for last in (day // 2, begin, day - 1, day, day + 1, agreeing[-1], behind, day * 3, 10 ** 60 - 1):
                many = last + 1 - sum(other_day <= last for other_day in agreeing)
                self.assertEqual(differing(*pair, last=last), many)
        return agreeing

    def test_the_same_dates_far_away_and_then_never_again(self):
        sizes = set()
        longer = ((("a", 3), ("b", 3)),)
        for rule, other in ((R, longer), (R, L), (L, longer), (L, R + R + longer), (R + L, longer + R)):
            for year, day in ((FAR, 10 ** 29), (7, 10 ** 40 + 3), (-FAR, 10 ** 50 - 1), (2, 10 ** 9)):
                for name in "ab":
                    sizes.add(len(self.check_meeting(rule, other, (year, name, 2), day)))
        self.assertTrue(len(sizes) > 3, sizes)

    def test_calendars_that_meet_and_part_again_and_again(self):
        # Both have ten days in two years, so the first one comes back to the same days in each of them.
        one, other = Book(R, D), Book(((("a", 3), ("b", 3)), (("a", 3), ("b", 1))), (1, "a", 1))
        for last in (10 ** 29, 10 ** 30):
            parts = [differing(one, other, last=day) - differing(one, other, last=day - 10) for day in (last, 30, 77)]
            self.assertEqual(parts, parts[:1] * 3)

    def test_a_meeting_within_a_stretch_that_ends(self):
        longer = ((("a", 3), ("b", 3)),)
        day = 10 ** 40
        meeting = (FAR, "b", 1)
        starts = back(R, meeting, day), back(longer, meeting, day)
        for end in (day - 100, day - 1, day, day + 1, day + 100, 2 * day):
            awaited = expected_date(Book(R, starts[0]), end)
            rule = ("rule", 0, awaited, longer, expected_date(Book(longer, starts[1]), end))
            one, other = Book(R, starts[0], rule), Book(longer, starts[1])
            self.assertEqual(events(one)[0][0], end)
            self.check_same(parted, [one, other], 0)
            found = agree_from(one, other)
            alone = Book(R, starts[0])
            many = differing(alone, other, last=end - 1)
            self.assertEqual(differing(one, other, last=10 ** 60), many)
            # Directly before the end they may happen to agree.
            expected = end
            while date_on(alone, expected - 1) == date_on(other, expected - 1):
                expected -= 1
            self.assertEqual(found, expected)


class FarEventsTest(Case):
    def check_pair(self, one, other, lasts):
        """Check all that is told about two books. Return it."""
        found = (expected_parted(one, other), expected_agree_from(one, other))
        counts = [expected_differing(one, other, last) for last in lasts]
        for pair in ((one, other), (other, one)):
            self.check_same(parted, pair, found[0])
            self.check_same(agree_from, pair, found[1])
            self.assertEqual([differing(*pair, last=last) for last in lasts], counts)
        return found

    def test_far_events(self):
        rand, far = random.Random(29), Counter()
        for years in ((0, FAR), (0, FAR, -FAR), (ROUNDS, 5 - ROUNDS, 1)):
            for book in books(f"compare far {years}", 25, years=years):
                for other in neighbours(rand, book) + [there_and_back(rand, book, (ROUNDS, FAR * 8 + 3))]:
                    days = [event[0] for event in events(book)[-2:]]
                    found = self.check_pair(book, other, [10 ** 30, ROUNDS, *days])
                    far.update(at for at, day in zip(("first", "end"), found) if day is not None and day > 10 ** 15)
        self.assertTrue(min(far["first"], far["end"]) > 20, far)

    def test_reach(self):
        rand, far = random.Random(30), Counter()
        for years in ((0, FAR), (0, ROUNDS, -ROUNDS)):
            for book in books(f"reach far {years}", 25, years=years, most=7):
                book = there_and_back(rand, book, (9, ROUNDS, FAR))
                for decree in book.standing:
                    other = without(book, decree)
                    found = expected_parted(book, other), expected_agree_from(book, other)
                    self.check_same(reach, [book, decree], found)
                    far.update(at for at, day in zip(("first", "end"), found) if day is not None and day > 10 ** 15)
        self.assertTrue(min(far["first"], far["end"]) > 10, far)

    def test_a_difference_between_two_far_events(self):
        for rule in (R, L, ODD):
            start = (0, rule[0][0][0], 1)
            for first, many in ((10 ** 49, 3), (10 ** 50, 10 ** 49), (5, 10 ** 50), (FAR * 9, 10 ** 30)):
                awaited = (first * len(rule), *start[1:])
                moved = (awaited[0] + 1, rule[1 % len(rule)][0][0], 1)
                end = (moved[0] + many * len(rule), *moved[1:])
                decrees = ("jump", 0, awaited, moved), ("restore", 0, end)
                begin, behind = first * round_days(rule), (first + many) * round_days(rule)
                plain, book = Book(rule, start), Book(rule, start, *decrees)
                self.assertEqual([event[0] for event in events(book)], [begin, behind])
                self.check_same(parted, [book, plain], begin)
                self.check_same(agree_from, [book, plain], behind)
                self.check_same(reach, [book, decrees[0]], (begin, behind))
                self.check_same(reach, [book, decrees[1]], (behind, None))
                for last in (begin - 1, begin, behind - 1, behind, behind * 2):
                    expected = max(0, min(last + 1, behind) - begin)
                    self.assertEqual(differing(book, plain, last=last), expected)

    def test_parts_of_a_span_add_up(self):
        rand = random.Random(31)
        for book in books("compare parts", 60, years=(0, FAR)):
            for other in neighbours(rand, book):
                day = rand.choice([rand.randrange(100), rand.randrange(FAR), *(event[0] for event in events(book))])
                dates = [expected_date(one, later) for one in (book, other) for later in range(day, day + 9)]
                many = sum(date != other_date for date, other_date in zip(dates[:9], dates[9:]))
                before = differing(book, other, last=day - 1) if day > 0 else 0
                self.assertEqual(picture(differing(book, other, last=day + 8) - before), picture(many))
