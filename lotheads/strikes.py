"""Strikes: as few joins as can be left out so that two things are apart.

As many roads as can be are laid without a join in two of them. A lay is a list, for each join of the row 1 where a
road goes by it from its first thing to its second, -1 where back, 0 where none does.
"""

from lotheads.errors import NoPair
from lotheads.forests import check_thing
from lotheads.moments import check_many_and_row
from lotheads.roads import roads_by, steps_along


def steps_of_all(row):
    return steps_along(row, list(range(len(row))))


def steps_left(row, lay):
    # Against a road one can go, too: what goes both ways by one join is then laid anew without it.
    return [(start, end, (at, sign)) for start, end, (at, sign) in steps_of_all(row) if lay[at] * sign < 1]


def steps_laid(row, lay):
    return [(start, end, (at, sign)) for start, end, (at, sign) in steps_of_all(row) if lay[at] * sign == 1]


def full_lay(row, x, y):
    """The lay of as many roads from x to y as can be: to it no road can be added."""
    lay = [0] * len(row)
    road = roads_by(steps_left(row, lay), x).get(y)
    while road is not None:
        for number, sign in road:
            lay[number] += sign
        road = roads_by(steps_left(row, lay), x).get(y)
    return lay


def strikes_by(row, lay, x):
    # All joins that lead out of what can still be reached are laid outwards, one for each road.
    reached = roads_by(steps_left(row, lay), x)
    return tuple([number for number, (one, other) in enumerate(row) if (one in reached) != (other in reached)])


def roads_in(row, full, x, y):
    lay = list(full)
    roads = []
    road = roads_by(steps_laid(row, lay), x).get(y)
    while road is not None:
        roads.append(tuple([number for number, sign in road]))
        for number, sign in road:
            lay[number] -= sign
        road = roads_by(steps_laid(row, lay), x).get(y)
    return tuple(roads)


def least_strikes(many, row, x, y):
    check_many_and_row(many, row)
    check_thing(many, x)
    check_thing(many, y)
    if x == y:
        raise NoPair("a thing is never apart from itself")
    lay = full_lay(row, x, y)
    return strikes_by(row, lay, x), roads_in(row, lay, x, y)
