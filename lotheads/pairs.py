"""Pairs: things to be kept apart, and the first join by which two of them come together."""

from lotheads.deeds import is_pair
from lotheads.errors import NoPair
from lotheads.moments import check_many_and_row, moment_of, real_steps
from lotheads.roads import numbers_between


def is_unlike_pair(many, thing):
    return is_pair(many, thing) and thing[0] != thing[1]


def check_pairs(many, pairs):
    if not isinstance(pairs, tuple) or not all([is_unlike_pair(many, pair) for pair in pairs]):
        raise NoPair("no tuple of pairs of unlike things")


def first_clash(many, row, pairs):
    check_many_and_row(many, row)
    check_pairs(many, pairs)
    steps = real_steps(many, row)
    clashes = []
    for number, (x, y) in enumerate(pairs):
        road = numbers_between(steps, x, y)
        if road is not None:
            clashes.append((moment_of(road), number, road))
    if len(clashes) == 0:
        return ("none",)
    moment, number, road = min(clashes)
    return "clash", moment, number, road
