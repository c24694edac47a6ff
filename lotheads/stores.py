"""Stores: tuples (JOIN, SHORT, UPS, MARKS), and the doublings of a number."""

from lotheads.errors import NoJoin
from lotheads.finds import check_short
from lotheads.forests import check_many

JOINS = ("size", "rank", "told", "names")


def is_way_of_joining(thing):
    return isinstance(thing, str) and thing in JOINS


def check_join(join):
    if not is_way_of_joining(join):
        raise NoJoin("no way of joining")


def new_store(many, join, short):
    check_many(many)
    check_join(join)
    check_short(short)
    mark = 1 if join == "size" else 0
    return join, short, tuple(range(many)), (mark,) * many


def doublings(number):
    # A number's highest binary place is the greatest doubling of 1 that does not pass it.
    return number.bit_length() - 1
