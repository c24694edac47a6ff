"""Worths: what a forest is worth, and how its fall pays for the steps of a deed."""

from lotheads.deeds import done
from lotheads.errors import NoWorth
from lotheads.forests import check_forest, lot_with, sizes_in
from lotheads.stores import doublings


def worth_in(ups):
    return sum([doublings(size) for size in sizes_in(ups)])


def worth_of(ups):
    check_forest(ups)
    return worth_in(ups)


def most_of_find(ups, x):
    return 1 + doublings(len(lot_with(ups, x)))


def most_of_deed(ups, deed):
    if deed[0] == "find":
        return most_of_find(ups, deed[1])
    one = lot_with(ups, deed[1])
    other = lot_with(ups, deed[2])
    most = most_of_find(ups, deed[1]) + most_of_find(ups, deed[2])
    if one != other:
        most += doublings(len(one) + len(other))
    return most


def paid(store, deed):
    if store[1] not in ("whole", "halves"):
        raise NoWorth("the store's manner is neither whole nor halves")
    behind, answer, steps = done(store, deed)
    return steps, most_of_deed(store[2], deed), worth_in(store[2]), worth_in(behind[2])
