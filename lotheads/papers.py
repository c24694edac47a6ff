"""The house's papers: to each question the claim that is true, with the paper that the checker takes."""

from lotheads.deeds import comes_to, run
from lotheads.errors import NoPair
from lotheads.forests import lot_with
from lotheads.lattice import chain, together
from lotheads.moments import first_moment, forest_at
from lotheads.seeping import seeps
from lotheads.shapes import can_come
from lotheads.stores import new_store
from lotheads.strikes import least_strikes
from lotheads.tellings import heights, road_between
from lotheads.webs import least_forest


def as_tuples(thing):
    """The same anew: what is told is the asker's own, and in claims all lists are tuples."""
    if not isinstance(thing, (list, tuple)):
        return thing
    return tuple([as_tuples(part) for part in thing])


def paper_two(many, row, x, y):
    told = first_moment(many, row, x, y)
    return (told[0], many, as_tuples(row), x, y), told[-1]


def paper_first(many, row, x, y):
    told = first_moment(many, row, x, y)
    if x == y or told[0] == "apart":
        raise NoPair("no unlike things in one lot")
    word, moment, road = told
    around = lot_with(forest_at(many, row, moment - 1), x)
    return ("first", many, as_tuples(row), x, y, moment), (road, around)


def paper_strikes(many, row, x, y):
    strikes, roads = least_strikes(many, row, x, y)
    return ("strikes", many, as_tuples(row), x, y, len(strikes)), (strikes, roads)


def paper_shape(join, ups):
    word, paper = can_come(join, ups)
    return (word, join, as_tuples(ups)), paper


def paper_steps(many, join, short, row):
    store, answers, steps = run(new_store(many, join, short), row)
    return ("steps", many, join, short, as_tuples(row), sum(steps)), None


def paper_tellings(many, rest, tellings):
    told = heights(many, rest, tellings)
    if told[0] == "fits":
        return ("fit", many, rest, as_tuples(tellings)), told[1]
    word, number, ring = told
    # The ring leads to the end of the telling that clashes: back by it one is where one began.
    return ("clash", many, rest, as_tuples(tellings)), (*ring, (number, -1))


def paper_differ(many, rest, tellings, x, y):
    road = road_between(many, rest, tellings, x, y)
    if road is None:
        raise NoPair("things in unlike lots")
    return ("differ", many, rest, as_tuples(tellings), x, y, comes_to(rest, tellings, road)), road


def paper_lots(many, one, other, x, y):
    road = chain(many, one, other, x, y)
    parts = (many, as_tuples(one), as_tuples(other), x, y)
    if road is not None:
        return ("together", *parts), road
    around = [lot for lot in together(many, one, other) if x in lot][0]
    return ("not together", *parts), around


def paper_forest(many, ties):
    worth, chosen = least_forest(many, ties)
    return ("forest", many, as_tuples(ties), worth), chosen


def paper_seeps(high, wide, row):
    told = seeps(high, wide, row)
    if told[0] == "shut":
        return ("shut", high, wide, as_tuples(row)), told[1]
    word, moment, road, wall = told
    return ("through", high, wide, as_tuples(row), moment), (road, wall)
