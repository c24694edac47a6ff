"""Shapes: how high trees get by each way of joining, and which forests come."""

from lotheads.forests import check_forest, check_many, sizes_in, way_up
from lotheads.stores import check_join, doublings


def chain_row(many):
    # Each new head stands ahead and is the lesser, so it stays by told and by names.
    return tuple([(x, x + 1) for x in range(many - 2, -1, -1)])


def even_row(many):
    # Trees of one size and rank are joined as long as there are such: only this makes them higher.
    row = []
    width = 1
    while width < many:
        for x in range(0, many - width, 2 * width):
            row.append((x, x + width))
        width *= 2
    return tuple(row)


def highest(many, join):
    check_many(many)
    check_join(join)
    if join in ("size", "rank"):
        return doublings(many), even_row(many)
    return many - 1, chain_row(many)


def children_of(ups, x):
    return [y for y in range(len(ups)) if ups[y] == x and y != x]


def drops_in(ups):
    """For each thing how many steps lead down to the farthest thing under it."""
    drops = [0] * len(ups)
    for x in range(len(ups)):
        for steps, above in enumerate(way_up(ups, x)):
            drops[above] = max(drops[above], steps)
    return drops


def sizes_can(sizes):
    ahead = 0
    for size in sorted(sizes):
        if size > ahead + 1:
            return False
        ahead += size
    return True


def drops_can(drop, drops):
    return all([steps in drops for steps in range(drop)])


def can_at(join, ups, x):
    children = children_of(ups, x)
    if join == "size":
        sizes = sizes_in(ups)
        return sizes_can([sizes[y] for y in children])
    if join == "rank":
        drops = drops_in(ups)
        return drops_can(drops[x], [drops[y] for y in children])
    if join == "names":
        return all([y > x for y in children])
    return True


def joining_order(join, ups):
    """By size and rank lesser children go first: a head must be no less than each when it comes."""
    weights = drops_in(ups) if join == "rank" else sizes_in(ups)
    return sorted(range(len(ups)), key=lambda y: weights[y])


def row_to(join, ups):
    # A thing weighs less than its up, so it has all its own children ahead of its own join.
    row = []
    for y in joining_order(join, ups):
        if ups[y] != y:
            row.append((ups[y], y))
    return tuple(row)


def can_come(join, ups):
    check_join(join)
    check_forest(ups)
    for x in range(len(ups)):
        if not can_at(join, ups, x):
            return "never", x
    return "comes", row_to(join, ups)
