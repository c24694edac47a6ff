"""Moments: who was with whom behind each join of a row, done from single things by size."""

from lotheads.deeds import check_joins, join_done
from lotheads.errors import NoMoment
from lotheads.forests import check_many, check_thing, is_thing, lot_with, lots_in, way_up
from lotheads.roads import numbers_between, steps_along
from lotheads.stores import new_store


def forest_and_times(many, row):
    store = new_store(many, "size", "none")
    times = [None] * many
    for number, (x, y) in enumerate(row):
        behind, real, steps = join_done(store, x, y)
        for thing in range(many):
            if behind[2][thing] != store[2][thing]:
                times[thing] = number
        store = behind
    return store[2], tuple(times)


def check_many_and_row(many, row):
    check_many(many)
    check_joins(many, row)


def check_moment(row, moment):
    # The moments are one more than the joins.
    if not is_thing(len(row) + 1, moment):
        raise NoMoment("no moment of the row")


def forest_at(many, row, moment):
    return forest_and_times(many, row[:moment])[0]


def lots_by(many, row):
    """The lots at the end of a row that is known to be right."""
    return lots_in(forest_and_times(many, row)[0])


def times_of(many, row):
    check_many_and_row(many, row)
    return forest_and_times(many, row)


def head_at(many, row, moment, x):
    check_many_and_row(many, row)
    check_moment(row, moment)
    check_thing(many, x)
    return way_up(forest_at(many, row, moment), x)[-1]


def lots_at(many, row, moment):
    check_many_and_row(many, row)
    check_moment(row, moment)
    return lots_by(many, row[:moment])


def real_numbers(many, row):
    """The numbers of the real joins: by each of them one thing ceases to be a head."""
    times = forest_and_times(many, row)[1]
    return [number for number in range(len(row)) if number in times]


def real_steps(many, row):
    """The steps along the real joins: from one thing to another there is but one road by them."""
    return steps_along(row, real_numbers(many, row))


def moment_of(road):
    """The first moment at which this road, of real joins, can be gone."""
    return max(road, default=-1) + 1


def first_moment(many, row, x, y):
    check_many_and_row(many, row)
    check_thing(many, x)
    check_thing(many, y)
    road = numbers_between(real_steps(many, row), x, y)
    if road is None:
        return "apart", lot_with(forest_at(many, row, len(row)), x)
    return "one", moment_of(road), road
