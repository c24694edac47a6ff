"""Forests: tuples that hold for each thing its up, itself for a head.

The functions that DOC.md lists refuse what is wrong; the others trust what they are handed.
"""

from lotheads.errors import NoForest, NoMany, NoThing

MOST_THINGS = 40


def is_whole(thing):
    # To Python a truth is an int; here it is no number.
    return isinstance(thing, int) and not isinstance(thing, bool)


def is_many(thing):
    return is_whole(thing) and 1 <= thing <= MOST_THINGS


def are_sides(high, wide):
    """Whether these, of any kind, are the sides of a board: as many spots are allowed as things."""
    return is_many(high) and is_many(wide) and is_many(high * wide)


def is_thing(many, thing):
    return is_whole(thing) and 0 <= thing < many


def leads_to_head(ups, x):
    at = x
    # Who is not at a head after as many ups as there are things goes round in a ring.
    for step in range(len(ups)):
        at = ups[at]
    return ups[at] == at


def is_forest(thing):
    if not isinstance(thing, tuple) or not is_many(len(thing)):
        return False
    many = len(thing)
    # Ups may only be followed where all of them are things.
    if not all([is_thing(many, up) for up in thing]):
        return False
    return all([leads_to_head(thing, x) for x in range(many)])


def check_many(many):
    if not is_many(many):
        raise NoMany("the number of things is no whole number from 1 to 40")


def check_forest(ups):
    if not is_forest(ups):
        raise NoForest("no forest")


def check_thing(many, x):
    if not is_thing(many, x):
        raise NoThing("no thing of these")


def check_forest_and_thing(ups, x):
    check_forest(ups)
    check_thing(len(ups), x)


def way_up(ups, x):
    way = [x]
    while ups[way[-1]] != way[-1]:
        way.append(ups[way[-1]])
    return way


def sizes_in(ups):
    sizes = [0] * len(ups)
    for x in range(len(ups)):
        for above in way_up(ups, x):
            sizes[above] += 1
    return sizes


def lots_in(ups):
    # Things come rising and a dict keeps its order, so the lots stand by their least things.
    lots = {}
    for x in range(len(ups)):
        head = way_up(ups, x)[-1]
        lots.setdefault(head, []).append(x)
    return [tuple(lot) for lot in lots.values()]


def is_rising(many, thing):
    """Whether this, of any kind, is a rising tuple of things, perhaps of none."""
    if not isinstance(thing, tuple) or not all([is_thing(many, x) for x in thing]):
        return False
    return all([x < y for x, y in zip(thing, thing[1:])])


def are_lots(many, thing):
    """Whether this, of any kind, is all lots of many things, by their least ones."""
    if not isinstance(thing, (list, tuple)):
        return False
    if not all([is_rising(many, lot) and len(lot) > 0 for lot in thing]):
        return False
    leasts = [lot[0] for lot in thing]
    return leasts == sorted(leasts) and sorted([x for lot in thing for x in lot]) == list(range(many))


def lot_with(ups, x):
    head = way_up(ups, x)[-1]
    return tuple([y for y in range(len(ups)) if way_up(ups, y)[-1] == head])


def head_of(ups, x):
    check_forest_and_thing(ups, x)
    return way_up(ups, x)[-1]


def depth_of(ups, x):
    check_forest_and_thing(ups, x)
    return len(way_up(ups, x)) - 1


def size_of(ups, x):
    check_forest_and_thing(ups, x)
    return sizes_in(ups)[x]


def way_of(ups, x):
    check_forest_and_thing(ups, x)
    return tuple(way_up(ups, x))


def lot_of(ups, x):
    check_forest_and_thing(ups, x)
    return lot_with(ups, x)


def lots_of(ups):
    check_forest(ups)
    return lots_in(ups)


def height_of(ups):
    check_forest(ups)
    return max([len(way_up(ups, x)) - 1 for x in range(len(ups))])
