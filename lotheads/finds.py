"""Finds: from a thing to its head by one of five manners, with the steps counted.

Each manner changes the list of ups that it is handed and gives (HEAD, STEPS).
"""

from lotheads.errors import NoShort
from lotheads.forests import check_forest, check_thing


def find_none(ups, x):
    at = x
    steps = 0
    while ups[at] != at:
        at = ups[at]
        steps += 1
    return at, steps


def find_whole(ups, x):
    head, steps = find_none(ups, x)
    at = x
    while at != head:
        above = ups[at]
        ups[at] = head
        at = above
    return head, steps


def find_halves(ups, x):
    at = x
    steps = 0
    while ups[at] != at:
        ups[at] = ups[ups[at]]
        at = ups[at]
        steps += 1
    return at, steps


def find_splits(ups, x):
    at = x
    steps = 0
    while ups[at] != at:
        above = ups[at]
        ups[at] = ups[above]
        at = above
        steps += 1
    return at, steps


def find_one(ups, x):
    head, steps = find_none(ups, x)
    ups[x] = ups[ups[x]]
    return head, steps


MANNERS = {
    "none": find_none,
    "whole": find_whole,
    "halves": find_halves,
    "splits": find_splits,
    "one": find_one,
}


def is_short(thing):
    # Only a text can be looked up: a list, say, is no key at all.
    return isinstance(thing, str) and thing in MANNERS


def check_short(short):
    if not is_short(short):
        raise NoShort("no manner of finding")


def find_in(ups, short, x):
    """The find of x where forest, manner and thing are known to be right."""
    behind = list(ups)
    manner = MANNERS[short]
    head, steps = manner(behind, x)
    return head, tuple(behind), steps


def found(ups, short, x):
    check_forest(ups)
    check_short(short)
    check_thing(len(ups), x)
    return find_in(ups, short, x)
