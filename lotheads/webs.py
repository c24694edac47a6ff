"""Webs: things tied by ties with a weight, and the ties that join them at least weight."""

from lotheads.deeds import check_row, is_tie
from lotheads.forests import check_many, check_thing
from lotheads.moments import lots_by, real_numbers
from lotheads.roads import numbers_between, steps_along


def check_web(many, ties):
    check_many(many)
    check_row(many, ties, is_tie)


def chosen_in(many, ties):
    """The numbers of the ties that are real joins where all are done by weight and then by number."""
    order = sorted([(weight, number) for number, (x, y, weight) in enumerate(ties)])
    joins = [ties[number][:2] for weight, number in order]
    return tuple(sorted([order[at][1] for at in real_numbers(many, joins)]))


def pieces(many, ties):
    check_web(many, ties)
    return lots_by(many, [(x, y) for x, y, weight in ties])


def least_forest(many, ties):
    check_web(many, ties)
    chosen = chosen_in(many, ties)
    return sum([ties[number][2] for number in chosen]), chosen


def narrowest(many, ties, x, y):
    check_web(many, ties)
    check_thing(many, x)
    check_thing(many, y)
    road = numbers_between(steps_along(ties, chosen_in(many, ties)), x, y)
    if road is None:
        return None
    return max([ties[number][2] for number in road], default=0), road
