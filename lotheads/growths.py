"""Growths: worths by rank, which pay for steps with hardly more than a fixed number."""

from lotheads.deeds import done
from lotheads.errors import NoWorth

# The last numbers of which FEW is 0, 1, 2 and 3.
LAST_OF_FEW = (2, 3, 7, 2047)


def few(number):
    for at, last in enumerate(LAST_OF_FEW):
        if number <= last:
            return at
    return len(LAST_OF_FEW)


def growth(level, start, bound):
    """GROWTH(level, start), or, where this passes bound, some number above bound."""
    if level == 0:
        return start + 1
    value = start
    for turn in range(start + 1):
        value = growth(level - 1, value, bound)
        # Growths get too great to be reckoned, and all that counts is that they pass.
        if value > bound:
            return value
    return value


def level_of(mark, above):
    level = 0
    while growth(level + 1, mark, above) <= above:
        level += 1
    return level


def times_of_level(level, mark, above):
    times = 0
    value = growth(level, mark, above)
    while value <= above:
        times += 1
        value = growth(level, value, above)
    return times


def worth_at(ups, marks, x):
    most = few(len(ups))
    mark = marks[x]
    if ups[x] == x or mark == 0:
        return most * mark
    above = marks[ups[x]]
    level = level_of(mark, above)
    return (most - level) * mark - times_of_level(level, mark, above)


def rank_worth(store):
    join, short, ups, marks = store
    if join != "rank" or short != "whole":
        raise NoWorth("the store is not by rank and whole")
    return sum([worth_at(ups, marks, x) for x in range(len(ups))])


def most_by_few(most, deed, answer):
    if deed[0] == "find":
        return most + 1
    apart = most if answer else 0
    return 2 * most + 2 + apart


def rank_paid(store, deed):
    before = rank_worth(store)
    behind, answer, steps = done(store, deed)
    most = most_by_few(few(len(store[2])), deed, answer)
    return steps, most, before, rank_worth(behind)
