"""Tellings: what things are more than others, by a rest, and whether this can be."""

from lotheads.deeds import by_rest, check_row, comes_to, is_rest, is_telling
from lotheads.errors import NoFit, NoRest
from lotheads.forests import check_many, check_thing
from lotheads.roads import roads_by, steps_along


def check_rest_and_tellings(many, rest, tellings):
    check_many(many)
    if not is_rest(rest):
        raise NoRest("the rest is neither 0 nor a whole number from 2 to 1000")
    check_row(many, tellings, is_telling)


def gone_through(rest, tellings):
    """The numbers of the tellings that joined two lots, up to the first clash; and it, or None."""
    joining = []
    for number, (x, y, more) in enumerate(tellings):
        road = roads_by(steps_along(tellings, joining), x).get(y)
        if road is None:
            joining.append(number)
        elif comes_to(rest, tellings, road) != by_rest(rest, more):
            return joining, ("clash", number, road)
    return joining, None


def height_by(rest, tellings, steps, x):
    least = min(list(roads_by(steps, x)))
    return comes_to(rest, tellings, roads_by(steps, least)[x])


def heights(many, rest, tellings):
    check_rest_and_tellings(many, rest, tellings)
    joining, clash = gone_through(rest, tellings)
    if clash is not None:
        return clash
    steps = steps_along(tellings, joining)
    return "fits", tuple([height_by(rest, tellings, steps, x) for x in range(many)])


def road_between(many, rest, tellings, x, y):
    """The road from x to y by tellings that joined two lots; None where there is none."""
    check_rest_and_tellings(many, rest, tellings)
    check_thing(many, x)
    check_thing(many, y)
    joining, clash = gone_through(rest, tellings)
    if clash is not None:
        raise NoFit("the tellings clash")
    return roads_by(steps_along(tellings, joining), x).get(y)


def difference(many, rest, tellings, x, y):
    road = road_between(many, rest, tellings, x, y)
    if road is None:
        return None
    return comes_to(rest, tellings, road)
