"""Two books side by side as [17] tells them, gone through day by day, for comparison."""

from math import lcm

from tests.samples import next_date, round_days
from tests.simulation import Walker, advance, expected_reigns

# Of rules with short years: longer than all years together that the rounds of two such rules go into.
WINDOW = 250


def differences(one, other, many):
    """Return the list of the first days on which two books differ, among so many days."""
    walkers = Walker(one), Walker(other)
    found = []
    for day in range(many):
        if walkers[0].present() != walkers[1].present():
            found.append(day)
        for walker in walkers:
            walker.step()
    return found


def shared(one, other):
    """Return the spans of days without a new stretch in either book, with the rules and the dates of the first day."""
    reigns = expected_reigns(one), expected_reigns(other)
    firsts = sorted({reign[0] for book in reigns for reign in book})
    found = []
    for first, behind in zip(firsts, firsts[1:] + [None]):
        last = behind - 1 if behind is not None else None
        row = []
        for book in reigns:
            begin, end, rule, start = [reign for reign in book if reign[0] <= first][-1]
            row.append((rule, advance(rule, start, first - begin)))
        found.append((first, last, row))
    return found


def differing_at(row, days, many):
    """Return on which of so many days, from so many days behind the first one, two calendars differ."""
    (rule, date), (other_rule, other_date) = row
    date, other_date = advance(rule, date, days), advance(other_rule, other_date, days)
    found = []
    for day in range(days, days + many):
        if date != other_date:
            found.append(day)
        date, other_date = next_date(rule, date), next_date(other_rule, other_date)
    return found


def expected_parted(one, other):
    """Return the first day on which two books differ, or None."""
    for first, last, row in shared(one, other):
        many = WINDOW if last is None else min(WINDOW, last - first + 1)
        found = differing_at(row, 0, many)
        if found:
            return first + found[0]
    return None


def expected_agree_from(one, other):
    """Return the first day from which on two books agree, or None."""
    for first, last, row in shared(one, other)[::-1]:
        if last is None:
            if differing_at(row, 0, WINDOW):
                return None
        else:
            many = min(WINDOW, last - first + 1)
            found = differing_at(row, last - first + 1 - many, many)
            if found:
                return first + found[-1] + 1
    return 0


def count_of(row, days):
    """Return on how many of so many days two calendars differ, the first day among them."""
    (rule, date), (other_rule, other_date) = row
    years = lcm(len(rule), len(other_rule))
    period = years // len(rule) * round_days(rule)
    if period == years // len(other_rule) * round_days(other_rule):
        times, rest = divmod(days, period)
        return times * len(differing_at(row, 0, period)) + len(differing_at(row, 0, rest))
    # The years of the two dates drift apart by so many years in so many days, and stray by a round of each at most.
    drift = len(rule) * round_days(other_rule) - len(other_rule) * round_days(rule)
    scale = round_days(rule) * round_days(other_rule)
    stray = len(rule) + len(other_rule)
    ends = sorted((other_date[0] - date[0] + sign * stray) * scale // drift for sign in (-1, 1))
    first, behind = max(0, ends[0] - 1), min(days, ends[1] + 2)
    if first >= behind:
        return days
    return days - (behind - first) + len(differing_at(row, first, behind - first))


def expected_differing(one, other, last):
    """Return on how many days up to the last one two books differ."""
    many = 0
    for first, end, row in shared(one, other):
        if first <= last:
            many += count_of(row, (last if end is None else min(last, end)) - first + 1)
    return many
