"""Lots of two stores: together, what both have, which are finer, and chains through both."""

from lotheads.errors import NoLots
from lotheads.forests import are_lots, check_many, check_thing
from lotheads.moments import lots_by
from lotheads.roads import roads_by


def is_lots(many, thing):
    check_many(many)
    return are_lots(many, thing)


def check_lots(many, one, other):
    check_many(many)
    if not are_lots(many, one) or not are_lots(many, other):
        raise NoLots("no lots of these things")


def together(many, one, other):
    check_lots(many, one, other)
    return lots_by(many, [(lot[0], thing) for lot in [*one, *other] for thing in lot[1:]])


def both(many, one, other):
    check_lots(many, one, other)
    shared = [tuple([x for x in lot if x in beside]) for lot in one for beside in other]
    return sorted([lot for lot in shared if len(lot) > 0])


def is_within(lot, lots):
    return any([all([x in beside for x in lot]) for beside in lots])


def is_finer(many, one, other):
    check_lots(many, one, other)
    return all([is_within(lot, other) for lot in one])


def chain(many, one, other, x, y):
    check_lots(many, one, other)
    check_thing(many, x)
    check_thing(many, y)
    # Each step's label is the thing it comes to, so that the labels gone by are the chain.
    steps = [(start, end, end) for lot in [*one, *other] for start in lot for end in lot]
    road = roads_by(steps, x).get(y)
    if road is None:
        return None
    return (x, *road)
