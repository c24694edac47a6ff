"""Seeping: spots are opened one behind the other, until an open road leads from the first row to the last."""

from lotheads.boards import neighbours
from lotheads.deeds import check_row
from lotheads.errors import NoBoard
from lotheads.forests import are_sides, is_thing
from lotheads.roads import roads_by

# Where one stands ahead of the first row, or of the first column: on no spot.
OUTSIDE = -1


def corners(many, wide):
    """All spots with the ones below them that are corner to corner, each two once."""
    above = list(range(many - wide))
    behind = [(spot, spot + wide + 1) for spot in above if (spot + 1) % wide != 0]
    ahead = [(spot, spot + wide - 1) for spot in above if spot % wide != 0]
    return behind + ahead


def shortest_road(spots, beside, starts, ends):
    """As few of these spots as can be, from one of the starts to one of the ends; None where there is no road."""
    # Each step's label is the spot it comes to, so that the labels gone by are the road.
    steps = [(OUTSIDE, spot, spot) for spot in starts if spot in spots]
    for one, other in beside:
        if one in spots and other in spots:
            steps += [(one, other, other), (other, one, one)]
    roads = roads_by(steps, OUTSIDE)
    through = [roads[spot] for spot in ends if spot in roads]
    return min(through, key=len, default=None)


def open_road(many, wide, opened):
    return shortest_road(opened, neighbours(many, wide), list(range(wide)), list(range(many - wide, many)))


def shut_wall(many, wide, opened):
    shut = [spot for spot in range(many) if spot not in opened]
    beside = neighbours(many, wide) + corners(many, wide)
    return shortest_road(shut, beside, list(range(0, many, wide)), list(range(wide - 1, many, wide)))


def seeps(high, wide, row):
    if not are_sides(high, wide):
        raise NoBoard("no sides of a board")
    many = high * wide
    check_row(many, row, is_thing)
    for moment in range(1, len(row) + 1):
        road = open_road(many, wide, row[:moment])
        if road is not None:
            return "through", moment, road, shut_wall(many, wide, row[:moment - 1])
    return "shut", shut_wall(many, wide, row)
