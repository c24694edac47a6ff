"""Moments: who was with whom behind each join of a row, done from single things by size."""

from lotheads.deeds import check_joins, join_done
from lotheads.errors import NoMoment
from lotheads.forests import check_many, check_thing, is_thing, lot_with, lots_in, way_up
from lotheads.stores import new_store


def forest_and_times(many, row):
    store = new_store(many, "size", "none")
    times = [None] * many
    for number, (x, y) in enumerate(row):
        behind, real, steps = join_done(store, x, y)
        for thing in range(many):
            if behind[2][thing] != store[2][thing]:
                times[thing] = number
        store = behind
    return store[2], tuple(times)


def check_many_and_row(many, row):
    check_many(many)
    check_joins(many, row)


def check_moment(row, moment):
    # The moments are one more than the joins.
    if not is_thing(len(row) + 1, moment):
        raise NoMoment("no moment of the row")


def forest_at(many, row, moment):
    return forest_and_times(many, row[:moment])[0]


def times_of(many, row):
    check_many_and_row(many, row)
    return forest_and_times(many, row)


def head_at(many, row, moment, x):
    check_many_and_row(many, row)
    check_moment(row, moment)
    check_thing(many, x)
    return way_up(forest_at(many, row, moment), x)[-1]


def lots_at(many, row, moment):
    check_many_and_row(many, row)
    check_moment(row, moment)
    return lots_in(forest_at(many, row, moment))


def real_numbers(many, row):
    """The numbers of the real joins: by each of them one thing ceases to be a head."""
    times = forest_and_times(many, row)[1]
    return [number for number in range(len(row)) if number in times]


def roads_from(many, row, x):
    """For each thing in x's lot the road to it by real joins."""
    reals = real_numbers(many, row)
    roads = {x: ()}
    waiting = [x]
    while waiting:
        at = waiting.pop()
        for number in reals:
            one, other = row[number]
            beside = other if at == one else one
            if at in (one, other) and beside not in roads:
                roads[beside] = roads[at] + (number,)
                waiting.append(beside)
    return roads


def first_moment(many, row, x, y):
    check_many_and_row(many, row)
    check_thing(many, x)
    check_thing(many, y)
    roads = roads_from(many, row, x)
    if y not in roads:
        return "apart", lot_with(forest_at(many, row, len(row)), x)
    road = roads[y]
    return "one", max(road, default=-1) + 1, road
