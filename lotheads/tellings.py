"""Tellings: what things are more than others, by a rest, and whether this can be."""

from lotheads.deeds import check_row, is_telling
from lotheads.errors import NoFit, NoRest
from lotheads.forests import check_many, check_thing, is_whole
from lotheads.roads import roads_by, steps_along


def is_rest(thing):
    return is_whole(thing) and (thing == 0 or 2 <= thing <= 1000)


def check_rest_and_tellings(many, rest, tellings):
    check_many(many)
    if not is_rest(rest):
        raise NoRest("the rest is neither 0 nor a whole number from 2 to 1000")
    check_row(many, tellings, is_telling)


def by_rest(rest, number):
    return number if rest == 0 else number % rest


def comes_to(rest, tellings, road):
    """What the end of a road of tellings is more than its start."""
    return by_rest(rest, sum([tellings[number][2] * sign for number, sign in road]))


def gone_through(rest, tellings):
    """The numbers of the tellings that joined two lots, up to the first clash; and it, or None."""
    joining = []
    for number, (x, y, more) in enumerate(tellings):
        road = roads_by(steps_along(tellings, joining), x).get(y)
        if road is None:
            joining.append(number)
        elif comes_to(rest, tellings, road) != by_rest(rest, more):
            return joining, ("clash", number, road)
    return joining, None


def height_by(rest, tellings, steps, x):
    least = min(list(roads_by(steps, x)))
    return comes_to(rest, tellings, roads_by(steps, least)[x])


def heights(many, rest, tellings):
    check_rest_and_tellings(many, rest, tellings)
    joining, clash = gone_through(rest, tellings)
    if clash is not None:
        return clash
    steps = steps_along(tellings, joining)
    return "fits", tuple([height_by(rest, tellings, steps, x) for x in range(many)])


def difference(many, rest, tellings, x, y):
    check_rest_and_tellings(many, rest, tellings)
    check_thing(many, x)
    check_thing(many, y)
    joining, clash = gone_through(rest, tellings)
    if clash is not None:
        raise NoFit("the tellings clash")
    road = roads_by(steps_along(tellings, joining), x).get(y)
    if road is None:
        return None
    return comes_to(rest, tellings, road)
