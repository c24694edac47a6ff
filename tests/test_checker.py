"""The checker: promise 28, and 2, 3 and all on which its claims rest as far as they go for it."""

import ast
import itertools
import math
import pathlib
import random

from lotheads.checker import holds
from tests import helper
from tests.helper import Case

ROW = ((0, 1), (2, 3), (1, 0), (4, 4), (3, 1), (2, 0))
DEEDS = (("join", 0, 1), ("join", 2, 3), ("join", 3, 1), ("find", 1), ("find", 1))
TELLINGS = ((0, 1, 5), (2, 3, -4), (1, 0, -5), (4, 4, 0), (3, 1, 2), (2, 0, -7))
CLASHING = ((0, 1, 5), (1, 0, 5), (2, 2, 3))
ONE = ((0, 1), (2,), (3, 5), (4,))
OTHER = ((0,), (1, 2), (3,), (4,), (5,))
TIES = ((0, 1, 4), (2, 3, 1), (1, 0, 2), (4, 4, 0), (3, 1, 4), (2, 0, 4), (0, 3, 5))
LINE = tuple([(x, x + 1) for x in range(39)])
SINGLE, WHOLE = tuple([(x,) for x in range(40)]), (tuple(range(40)),)

# Claims of each word with papers that are taken: a true claim may have many.
TAKEN = [
    (("one", 6, ROW, 0, 2), (5,)),
    (("one", 6, ROW, 0, 2), (0, 4, 1)),
    (("one", 6, ROW, 2, 0), (1, 4, 2)),
    (("one", 6, ROW, 0, 2), (0, 2, 0, 0, 5)),
    (("one", 6, ROW, 0, 2), (5, 5, 5)),
    (("one", 6, ROW, 4, 4), ()),
    (("one", 6, ROW, 4, 4), (3, 3, 3)),
    (("one", 6, ROW, 5, 5), ()),
    (("one", 6, ROW, 1, 1), (0, 0)),
    (("one", 6, ROW, 1, 1), (0, 5, 1, 4)),
    (("one", 1, (), 0, 0), ()),
    (("one", 1, ((0, 0),) * 60, 0, 0), (59, 0)),
    (("one", 40, LINE, 0, 39), tuple(range(39))),
    (("apart", 6, ROW, 0, 4), (0, 1, 2, 3)),
    (("apart", 6, ROW, 0, 4), (0, 1, 2, 3, 5)),
    (("apart", 6, ROW, 4, 0), (4,)),
    (("apart", 6, ROW, 4, 5), (0, 1, 2, 3, 4)),
    (("apart", 2, (), 1, 0), (1,)),
    (("apart", 40, LINE[:38], 39, 0), (39,)),
    (("apart", 40, (), 7, 0), tuple(range(1, 40))),
    (("first", 6, ROW, 0, 1, 1), ((0,), (0,))),
    (("first", 6, ROW, 0, 1, 1), ((0, 0, 0), (0, 2, 3, 5))),
    (("first", 6, ROW, 0, 3, 5), ((0, 4), (0, 1))),
    (("first", 6, ROW, 0, 3, 5), ((2, 4, 1, 1), (0, 1, 4, 5))),
    (("first", 40, LINE, 39, 38, 39), ((38,), (39,))),
    (("comes", "size", (0, 0, 0, 2)), ((0, 1), (2, 3), (0, 2))),
    (("comes", "size", (0, 0, 0, 2)), ((2, 3), (3, 2), (0, 1), (1, 1), (1, 3), (1, 3))),
    (("comes", "rank", (0, 0, 0, 3)), ((0, 1), (2, 0))),
    (("comes", "told", (1, 2, 2)), ((1, 0), (2, 0))),
    (("comes", "names", (0, 0, 1)), ((2, 1), (1, 0))),
    (("comes", "told", (0,)), ()),
    (("comes", "told", (0,)), ((0, 0),) * 60),
    (("comes", "size", tuple(range(40))), ()),
    (("comes", "names", (0,) + tuple(range(39))), LINE[::-1]),
    (("never", "size", (0, 0, 1)), 0),
    (("never", "size", (0, 0, 1, 0, 3, 4, 4)), 3),
    (("never", "rank", (0, 0, 1)), 0),
    (("never", "names", (1, 1)), 1),
    (("never", "names", (0, 2, 2, 1)), 2),
    (("never", "size", (0,) + tuple(range(39))), 20),
    (("never", "names", tuple([min(x + 1, 39) for x in range(40)])), 39),
    (("steps", 6, "size", "none", DEEDS, 6), None),
    (("steps", 6, "size", "whole", DEEDS, 5), None),
    (("steps", 1, "told", "one", (), 0), None),
    (("steps", 40, "names", "splits", (), 0), None),
    (("steps", 2, "rank", "halves", (("join", 0, 1),) + (("find", 1),) * 59, 59), None),
    (("strikes", 6, ROW, 0, 2, 2), ((4, 5), ((5,), (0, 4, 1)))),
    (("strikes", 6, ROW, 0, 2, 2), ((1, 5), ((2, 4, 1), (5,)))),
    (("strikes", 6, ROW, 0, 1, 3), ((0, 2, 4), ((0,), (2,), (5, 1, 4)))),
    (("strikes", 6, ROW, 4, 1, 0), ((), ())),
    (("strikes", 3, ((0, 0), (0, 1), (1, 1), (1, 2)), 0, 2, 1), ((1,), ((0, 1, 2, 3),))),
    # This road comes to 1 twice, but by no join twice.
    (("strikes", 3, ((0, 1), (1, 2), (2, 1), (1, 2)), 0, 2, 1), ((0,), ((0, 1, 2, 3),))),
    (("strikes", 2, ((0, 1),) * 60, 1, 0, 60), (tuple(range(60)), tuple([(at,) for at in range(60)]))),
    (("strikes", 2, (), 1, 0, 0), ((), ())),
    (("differ", 6, 0, TELLINGS, 0, 1, 5), ((0, 1),)),
    (("differ", 6, 0, TELLINGS, 1, 0, -5), ((2, 1),)),
    (("differ", 6, 0, TELLINGS, 1, 0, -5), ((0, -1), (2, -1), (0, -1))),
    (("differ", 6, 7, TELLINGS, 2, 3, 3), ((1, 1),)),
    (("differ", 6, 2, TELLINGS, 2, 3, 0), ((1, 1), (1, -1), (1, 1))),
    (("differ", 6, 1000, TELLINGS, 3, 0, 997), ((4, 1), (0, -1))),
    (("differ", 6, 0, TELLINGS, 4, 4, 0), ((3, 1), (3, -1))),
    (("differ", 6, 0, TELLINGS, 5, 5, 0), ()),
    (("differ", 3, 0, CLASHING, 0, 1, 5), ((0, 1),)),
    (("differ", 3, 0, CLASHING, 0, 1, -5), ((1, -1),)),
    (("differ", 3, 0, CLASHING, 0, 1, 15), ((0, 1), (1, 1), (0, 1))),
    (("differ", 3, 0, CLASHING, 2, 2, -6), ((2, -1), (2, -1))),
    (("differ", 1, 2, (), 0, 0, 0), ()),
    (("fit", 6, 0, TELLINGS), (0, 5, 7, 3, 0, 0)),
    (("fit", 6, 0, TELLINGS), (-3, 2, 4, 0, 99, -10 ** 9)),
    (("fit", 6, 2, TELLINGS), (1, 0, 0, 2, 77, -1)),
    (("fit", 6, 1000, TELLINGS), (1000, 5, -993, 3, 0, 0)),
    (("fit", 3, 10, CLASHING[:2]), (7, 12, 0)),
    (("fit", 1, 0, ()), (5,)),
    (("fit", 40, 999, ()), tuple(range(40))),
    (("clash", 3, 0, CLASHING), ((0, 1), (1, 1))),
    (("clash", 3, 0, CLASHING), ((1, -1), (0, -1))),
    (("clash", 3, 0, CLASHING), ((2, 1),)),
    (("clash", 3, 0, CLASHING), ((2, -1), (2, -1))),
    (("clash", 3, 10, CLASHING), ((2, 1),)),
    (("clash", 3, 7, CLASHING), ((0, 1), (1, 1), (0, 1), (0, -1))),
    (("clash", 1, 1000, ((0, 0, 999),)), ((0, 1),)),
    (("together", 6, ONE, OTHER, 0, 2), (0, 1, 2)),
    (("together", 6, ONE, OTHER, 0, 2), (0, 0, 1, 2, 1, 1, 2)),
    (("together", 6, ONE, OTHER, 5, 3), (5, 3)),
    (("together", 6, ONE, OTHER, 4, 4), (4,)),
    (("together", 6, ONE, OTHER, 4, 4), (4, 4)),
    (("together", 6, ONE, OTHER, 2, 2), (2, 1, 2)),
    (("together", 1, ((0,),), ((0,),), 0, 0), (0,)),
    (("together", 40, SINGLE, WHOLE, 3, 39), (3, 39)),
    (("together", 40, WHOLE, SINGLE, 3, 3), tuple(range(3, 40)) + (3,)),
    (("not together", 6, ONE, OTHER, 0, 4), (0, 1, 2)),
    (("not together", 6, ONE, OTHER, 0, 4), (0, 1, 2, 3, 5)),
    (("not together", 6, ONE, OTHER, 4, 0), (4,)),
    (("not together", 40, SINGLE, SINGLE, 39, 0), (39,)),
    (("forest", 6, TIES, 7), (1, 2, 4)),
    (("forest", 6, TIES, 7), (1, 2, 5)),
    (("forest", 1, (), 0), ()),
    (("forest", 40, (), 0), ()),
    (("forest", 1, ((0, 0, 5),) * 60, 0), ()),
    (("forest", 3, ((0, 1, 1), (1, 2, 1), (2, 0, 1)), 2), (0, 1)),
    (("forest", 3, ((0, 1, 1), (1, 2, 1), (2, 0, 1)), 2), (1, 2)),
    (("forest", 40, tuple([(x, y, 3) for x, y in LINE]), 117), tuple(range(39))),
    (("through", 3, 3, (1, 4, 7), 3), ((1, 4, 7), (6, 7, 8))),
    (("through", 3, 3, (1, 4, 7), 3), ((1, 4, 7), (3, 7, 5))),
    (("through", 3, 3, (0, 1, 3, 6, 4, 7, 8), 4), ((1, 0, 3, 6), (6, 4, 2))),
    (("through", 1, 1, (0,), 1), ((0,), (0,))),
    (("through", 1, 40, (5, 6), 1), ((5,), tuple(range(40)))),
    (("through", 40, 1, tuple(range(40)), 40), (tuple(range(40)), (39,))),
    (("shut", 3, 3, (1, 7)), (3, 4, 5)),
    (("shut", 3, 3, (1, 7)), (0, 3, 6, 4, 2)),
    (("shut", 3, 3, (0, 1, 3, 5, 7, 8, 8)), (6, 4, 2)),
    (("shut", 1, 1, ()), (0,)),
    (("shut", 40, 1, tuple(range(39))), (39,)),
    (("shut", 1, 40, ()), tuple(range(40))),
]

# Claims with papers that are not taken, though all is of the right kind.
LEFT = [
    (("one", 6, ROW, 0, 4), (0,)),
    (("one", 6, ROW, 0, 2), ()),
    (("one", 6, ROW, 0, 2), (5, 5)),
    (("one", 6, ROW, 0, 2), (5, 3)),
    (("one", 6, ROW, 0, 2), (-1,)),
    (("one", 6, ROW, 0, 2), (6,)),
    (("one", 6, ROW, 0, 0), (0,)),
    (("one", 2, ((0, 1),), 0, 0), (0,)),
    (("one", 41, ROW, 0, 2), (5,)),
    (("one", 3, ROW, 0, 2), (5,)),
    (("one", 6, ROW, -6, 2), (5,)),
    (("apart", 6, ROW, 0, 2), (0, 1)),
    (("apart", 6, ROW, 0, 4), (0, 1, 2)),
    (("apart", 6, ROW, 0, 4), (0, 1, 2, 3, 4)),
    (("apart", 6, ROW, 0, 4), (3, 2, 1, 0)),
    (("apart", 6, ROW, 0, 4), (0, 1, 2, 2, 3)),
    (("apart", 6, ROW, 0, 4), (0, 1, 2, 3, 6)),
    (("apart", 6, ROW, 0, 4), (5,)),
    (("apart", 6, ROW, 5, 5), (5,)),
    (("apart", 6, ROW, 5, 5), ()),
    (("first", 6, ROW, 0, 3, 6), ((0, 4), (0, 1))),
    (("first", 6, ROW, 0, 3, 4), ((0, 4), (0, 1))),
    (("first", 6, ROW, 0, 2, 5), ((5,), (0, 1))),
    (("first", 6, ROW, 0, 0, 0), ((), ())),
    (("first", 6, ROW, 0, 0, 1), ((), (0,))),
    (("first", 6, ROW, 0, 3, -1), ((0, 4), (0, 1))),
    (("first", 6, ROW, 0, 4, 7), ((0,), (0, 1, 2, 3))),
    (("first", 6, ROW, 0, 1, 0), ((0,), (0,))),
    (("comes", "size", (0, 0, 0, 2)), ((0, 1), (2, 3))),
    (("comes", "size", (0, 0, 0, 2)), ((0, 1), (2, 3), (2, 0))),
    (("comes", "size", (0, 0, 1)), ((0, 1), (1, 2))),
    (("comes", "none", (0,)), ()),
    (("comes", "size", ()), ()),
    (("comes", "size", tuple(range(41))), ()),
    (("comes", "size", (1, 0)), ((0, 1),)),
    (("comes", "size", (0, 0)), ((0, 2), (0, 1))),
    (("never", "size", (0, 0, 1)), 1),
    (("never", "size", (0, 0, 0, 2)), 0),
    (("never", "told", (1, 2, 2)), 2),
    (("never", "rank", (0, 0, 0, 2)), 0),
    (("never", "names", (0, 0, 1)), 0),
    (("never", "names", (1, 1)), 2),
    (("never", "names", (1, 1)), -1),
    (("steps", 6, "size", "none", DEEDS, 5), None),
    (("steps", 6, "size", "none", DEEDS, 7), None),
    (("steps", 6, "size", "half", DEEDS, 6), None),
    (("steps", 4, "size", "none", DEEDS + (("find", 4),), 6), None),
    (("strikes", 6, ROW, 0, 2, 1), ((5,), ((5,),))),
    (("strikes", 6, ROW, 0, 2, 3), ((1, 4, 5), ((5,), (0, 4, 1), (2, 4, 1)))),
    (("strikes", 6, ROW, 0, 2, 2), ((4, 5), ((5,), (5,)))),
    (("strikes", 6, ROW, 0, 2, 2), ((4, 5), ((5,),))),
    (("strikes", 6, ROW, 0, 2, 3), ((1, 4, 5), ((5,), (0, 4, 1)))),
    (("strikes", 6, ROW, 0, 2, 2), ((5, 4), ((5,), (0, 4, 1)))),
    (("strikes", 6, ROW, 0, 2, 3), ((4, 5), ((5,), (0, 4, 1)))),
    (("strikes", 6, ROW, 0, 2, 2), ((4, 5), ((5, 5, 5), (0, 4, 1)))),
    (("strikes", 6, ROW, 0, 2, 2), ((1, 4), ((5,), (0, 4, 1)))),
    (("strikes", 6, ROW, 0, 0, 0), ((), ())),
    (("strikes", 6, ROW, 0, 0, 1), ((5,), ((),))),
    (("differ", 6, 0, TELLINGS, 0, 1, 6), ((0, 1),)),
    (("differ", 6, 0, TELLINGS, 0, 1, -5), ((0, 1),)),
    (("differ", 6, 0, TELLINGS, 0, 1, 5), ((0, -1),)),
    (("differ", 6, 0, TELLINGS, 0, 1, 5), ((2, 1),)),
    (("differ", 6, 0, TELLINGS, 0, 1, 0), ((0, 0),)),
    (("differ", 6, 0, TELLINGS, 0, 1, 10), ((0, 2),)),
    (("differ", 6, 7, TELLINGS, 2, 3, -4), ((1, 1),)),
    (("differ", 6, 7, TELLINGS, 2, 3, 10), ((1, 1),)),
    (("differ", 6, 1, TELLINGS, 2, 3, 0), ((1, 1),)),
    (("differ", 6, 1001, TELLINGS, 0, 1, 5), ((0, 1),)),
    (("differ", 6, -2, TELLINGS, 0, 1, 5), ((0, 1),)),
    (("differ", 6, 0, TELLINGS, 0, 5, 0), ()),
    (("fit", 6, 0, TELLINGS), (0, 5, 7, 3, 0)),
    (("fit", 6, 0, TELLINGS), (0, 5, 7, 3, 0, 0, 0)),
    (("fit", 6, 0, TELLINGS), (0, 5, 7, 4, 0, 0)),
    (("fit", 6, 0, TELLINGS), (0, 1005, 7, 3, 0, 0)),
    (("fit", 3, 0, CLASHING[:2]), (0, 5, 0)),
    (("fit", 1, 2, ((0, 0, 1),)), (0,)),
    (("fit", 0, 0, ()), ()),
    (("clash", 3, 0, CLASHING), ()),
    (("clash", 3, 0, CLASHING), ((0, 1),)),
    (("clash", 3, 0, CLASHING), ((0, 1), (0, -1))),
    (("clash", 3, 0, CLASHING), ((0, 1), (2, 1), (1, 1))),
    (("clash", 3, 10, CLASHING), ((0, 1), (1, 1))),
    (("clash", 3, 0, CLASHING), ((-1, 1),)),
    (("clash", 3, 0, CLASHING), ((2, 3),)),
    (("clash", 6, 0, TELLINGS), ((0, 1), (2, 1))),
    (("together", 6, ONE, OTHER, 0, 2), (0, 2)),
    (("together", 6, ONE, OTHER, 0, 2), (1, 2)),
    (("together", 6, ONE, OTHER, 0, 2), (0, 1)),
    (("together", 6, ONE, OTHER, 0, 0), ()),
    (("together", 6, ONE, OTHER, 0, 2), (0, 1, 2, -1)),
    (("together", 6, ONE, OTHER, 0, 2), ()),
    (("together", 6, ONE, OTHER[:-1], 0, 2), (0, 1, 2)),
    (("together", 6, ONE[::-1], OTHER, 0, 2), (0, 1, 2)),
    (("not together", 6, ONE, OTHER, 0, 4), (0, 1)),
    (("not together", 6, ONE, OTHER, 0, 4), (1, 0, 2)),
    (("not together", 6, ONE, OTHER, 0, 4), (0, 1, 2, 4)),
    (("not together", 6, ONE, OTHER, 0, 2), (0,)),
    (("not together", 6, ONE, OTHER, 4, 4), (4,)),
    (("not together", 6, ONE, OTHER, 3, 4), (3,)),
    (("not together", 6, OTHER, ONE, 3, 4), (3,)),
    (("forest", 6, TIES, 7), (1, 2)),
    (("forest", 6, TIES, 3), (1, 2)),
    (("forest", 6, TIES, 9), (0, 1, 4)),
    (("forest", 6, TIES, 8), (1, 2, 6)),
    (("forest", 6, TIES, 7), (2, 1, 4)),
    (("forest", 6, TIES, 7), (1, 2, 3, 4)),
    (("forest", 6, TIES, 11), (1, 2, 4, 5)),
    (("forest", 6, TIES, 6), (1, 2, 4)),
    (("forest", 2, ((0, 1, -1),), -1), (0,)),
    (("forest", 3, ((0, 1, 0), (1, 2, 0), (2, 0, 0)), 0), (0, 1, 2)),
    (("forest", 1, ((0, 0, 0),), 0), (0,)),
    (("through", 3, 3, (1, 4, 7), 3), ((1, 4), (6, 7, 8))),
    (("through", 3, 3, (1, 4, 7), 3), ((4, 7), (6, 7, 8))),
    (("through", 3, 3, (1, 4, 7), 3), ((7, 4, 1), (6, 7, 8))),
    (("through", 3, 3, (1, 4, 7), 3), ((1, 4, 7), (8, 7, 6))),
    (("through", 3, 3, (1, 4, 7), 3), ((1, 4, 7), (3, 4, 5))),
    (("through", 3, 3, (1, 4, 7), 2), ((1, 4, 7), (6, 7, 8))),
    (("through", 3, 3, (1, 4, 7, 0), 4), ((1, 4, 7), (6, 7, 8))),
    (("through", 3, 3, (1, 4, 7), 0), ((1, 4, 7), (6, 7, 8))),
    (("through", 3, 3, (1, 4, 7), -1), ((1, 4, 7), (6, 7, 8))),
    (("through", 3, 3, (1, 4, 7), 3), ((1, 4, 1, 4, 7), (6, 7, 8))),
    (("through", 2, 2, (0, 3), 2), ((0, 3), (2, 3))),
    (("through", 1, 1, (0,), 1), ((), (0,))),
    (("through", 1, 1, (0,), 1), ((0,), ())),
    # 2 and 3 have numbers side by side, but lie at the two sides of the board.
    (("through", 2, 3, (2, 3), 2), ((2, 3), (3, 4, 5))),
    (("shut", 3, 3, (1, 7)), (3, 5)),
    (("shut", 3, 3, (1, 7)), (3, 4)),
    (("shut", 3, 3, (1, 7)), (4, 5)),
    (("shut", 3, 3, (1, 7)), (3, 4, 3, 4, 5)),
    (("shut", 3, 3, (1, 4, 7)), (3, 4, 5)),
    (("shut", 2, 3, (1, 4)), (3, 2)),
    (("shut", 1, 1, ()), ()),
    (("shut", 1, 1, (0,)), (0,)),
    (("shut", 1, 41, ()), tuple(range(41))),
    (("shut", 0, 1, ()), ()),
    (("shut", 40, 2, ()), (0, 1)),
]

SMALL = [case for case in TAKEN if len(helper.places_in(case)) < 80]


def fewest_strikes(many, row, x, y):
    """The least number of joins without which x and y are apart, by trying ever more of them."""
    for how in range(len(row) + 1):
        for struck in itertools.combinations(range(len(row)), how):
            others = [join for number, join in enumerate(row) if number not in struck]
            if y not in helper.reached(many, others, x):
                return how
    return None


def slack(many, rest, tellings, x):
    """What x's lot's things are more than x by some road, and the measure of all rings in it with REST."""
    more = {x: 0}
    for turn in range(many):
        for one, other, by in tellings:
            if one in more:
                more.setdefault(other, more[one] + by)
            if other in more:
                more.setdefault(one, more[other] - by)
    return more, math.gcd(rest, *[more[one] + by - more[other] for one, other, by in tellings if one in more])


def is_true_of_tellings(word, many, rest, tellings, *others):
    if word == "differ":
        x, y, by = others
        more, ring = slack(many, rest, tellings, x)
        return y in more and helper.same_by(ring, by, more[y])
    clashes = [x for x in range(many) if slack(many, rest, tellings, x)[1] != rest]
    return (word == "clash") == (len(clashes) > 0)


def least_weight(many, ties):
    """The least worth of ties that join all pieces, by trying all sets of as many as are needed."""
    joined = helper.lots_by_joins(many, [tie[:2] for tie in ties])
    sets = itertools.combinations(ties, many - len(joined))
    return min([sum([tie[2] for tie in chosen]) for chosen in sets
                if helper.lots_by_joins(many, [tie[:2] for tie in chosen]) == joined])


COMING = {}


def comes(join, ups):
    """Whether the forest comes, by doing all joins from single things."""
    if (join, len(ups)) not in COMING:
        stores = [helper.Model(len(ups), join, "none").store()]
        for store in stores:
            for x, y in itertools.product(range(len(ups)), repeat=2):
                model = helper.model_of(store)
                model.join_two(x, y)
                if model.store() not in stores:
                    stores.append(model.store())
        COMING[join, len(ups)] = {store[2] for store in stores}
    return ups in COMING[join, len(ups)]


def is_true(claim):
    """Whether a claim of the right kinds is true, whatever its paper, by floods and by trying all there is."""
    word, *parts = claim
    if word in ("one", "apart"):
        many, row, x, y = parts
        return (y in helper.reached(many, row, x)) == (word == "one")
    if word == "first":
        many, row, x, y, moment = parts
        return 1 <= moment <= len(row) and [y in helper.reached(many, row[:at], x) for at in (moment - 1, moment)] == [
            False, True]
    if word in ("comes", "never"):
        return comes(*parts) == (word == "comes")
    if word == "steps":
        return helper.model_steps(*parts, None)
    if word == "strikes":
        many, row, x, y, how = parts
        return x != y and fewest_strikes(many, row, x, y) == how
    if word in ("differ", "fit", "clash"):
        return is_true_of_tellings(word, *parts)
    if word in ("together", "not together"):
        many, one, other, x, y = parts
        joins = [(lot[0], z) for lot in one + other for z in lot]
        return (y in helper.reached(many, joins, x)) == (word == "together")
    if word == "forest":
        return least_weight(*parts[:2]) == parts[2]
    firsts = [at for at in range(1, len(parts[2]) + 1) if helper.seeps_by_places(*parts[:2], parts[2][:at])]
    return firsts[:1] == parts[3:] if word == "through" else not firsts


class ByHand(Case):
    def test_taken(self):
        for claim, paper in TAKEN:
            self.told(True, holds, claim, paper)

    def test_not_taken(self):
        for claim, paper in LEFT:
            self.told(False, holds, claim, paper)

    def test_the_model_tells_the_same(self):
        for claim, paper in TAKEN:
            self.assertTrue(helper.holds_by_words(claim, paper), (claim, paper))
        for claim, paper in LEFT:
            self.assertFalse(helper.holds_by_words(claim, paper), (claim, paper))

    def test_each_word_is_among_them(self):
        self.assertEqual(set(helper.SHAPES), {claim[0] for claim, paper in TAKEN})
        self.assertEqual(set(helper.SHAPES), {claim[0] for claim, paper in LEFT})


class Bent(Case):
    def check(self, claim, paper):
        expected = helper.holds_by_words(claim, paper)
        told = holds(claim, paper)
        if told is not expected:
            self.fail(f"{claim!r} with {paper!r}: {told!r}, not {expected!r}")

    def test_each_part_of_the_claim_at_any_depth(self):
        for claim, paper in SMALL:
            for bent in helper.all_bends(claim):
                self.check(bent, paper)

    def test_each_part_of_the_paper_at_any_depth(self):
        for claim, paper in SMALL:
            for bent in helper.all_bends(paper):
                self.check(claim, bent)

    def test_some_parts_of_great_claims_and_papers(self):
        rng = random.Random(81)
        for claim, paper in TAKEN:
            both = (claim, paper)
            ways = [way for way in helper.places_in(both) if way]
            for way in rng.sample(ways, min(len(ways), 40)):
                for part in helper.bends_of(helper.part_at(both, way)):
                    self.check(*helper.bent_at(both, way, part))

    def test_two_parts_at_once(self):
        rng = random.Random(82)
        for claim, paper in SMALL:
            for turn in range(60):
                both = (claim, paper)
                for bend in range(2):
                    way = rng.choice([way for way in helper.places_in(both) if way])
                    both = helper.bent_at(both, way, rng.choice(helper.bends_of(helper.part_at(both, way))))
                self.check(*both)

    def test_other_words_over_the_same_parts(self):
        for claim, paper in SMALL:
            for word in helper.SHAPES:
                self.check((word, *claim[1:]), paper)

    def test_papers_of_other_claims(self):
        for claim, paper in SMALL:
            for other, another in TAKEN:
                self.check(claim, another)

    def test_truths_for_numbers_are_none(self):
        for claim, paper in SMALL:
            both = (claim, paper)
            for way in helper.places_in(both):
                part = helper.part_at(both, way)
                if type(part) is int and part in (0, 1):
                    self.told(False, holds, *helper.bent_at(both, way, bool(part)))

    def test_lists_for_tuples_are_none(self):
        for claim, paper in TAKEN:
            both = (claim, paper)
            ways = [way for way in helper.places_in(both) if way and type(helper.part_at(both, way)) is tuple]
            for way in ways:
                self.same(False, holds(*helper.bent_at(both, way, list(helper.part_at(both, way)))))

    def test_another_number_of_parts_is_none(self):
        for claim, paper in SMALL:
            for more in ((None,), (0,), (paper,), claim[-1:]):
                self.told(False, holds, claim + more, paper)
            for at in range(len(claim)):
                self.told(False, holds, claim[:at] + claim[at + 1:], paper)
            self.told(False, holds, (claim[0],), paper)

    def test_numbers_counted_from_the_end_are_none(self):
        for claim, paper in TAKEN:
            for number in range(-60, 0):
                if claim[0] in ("one", "apart", "together", "not together", "forest", "shut") and paper:
                    for at in range(len(paper)):
                        self.same(False, holds(claim, helper.with_place(paper, at, number)))
        line = tuple([(x, x + 1) for x in range(3)])
        self.same(True, holds(("one", 4, line, 2, 3), (2,)))
        self.same(False, holds(("one", 4, line, 2, 3), (-1,)))
        self.same(False, holds(("one", 4, line, 2, -1), (2,)))
        self.same(False, holds(("differ", 2, 0, ((0, 1, 3),), 0, 1, 3), ((-1, 1),)))
        self.same(False, holds(("strikes", 2, ((0, 1),), 0, 1, 1), ((-1,), ((0,),))))
        self.same(False, holds(("strikes", 2, ((0, 1),), 0, 1, 1), ((0,), ((-1,),))))


class AnyKind(Case):
    def test_claims_and_papers_of_any_kind(self):
        things = helper.wrong_things() + helper.deep_things(12) + [(), 0, 1, ("one",), ("shut", 1, 1), ("one", 1, ())]
        for thing in things:
            for other in things:
                self.assertIs(False, holds(thing, other))
            for claim, paper in SMALL:
                self.same(helper.holds_by_words(claim, thing), holds(claim, thing))
                self.same(False, holds(thing, paper))

    def test_each_part_of_any_kind(self):
        wrong = helper.wrong_things() + helper.no_things(40) + ["one", "whole", ("find", 0), ("join", 0, 0)]
        for claim, paper in SMALL[::3]:
            both = (claim, paper)
            for way in helper.places_in(both):
                for thing in wrong if way else []:
                    bent = helper.bent_at(both, way, thing)
                    self.assertIs(helper.holds_by_words(*bent), holds(*bent), bent)

    def test_what_is_handed_in_stays(self):
        for thing in ([], [1], {}, {"one": [2]}, ("one", [6], [[0, 1]], 0, 1), [("one", 1, (), 0, 0)]):
            self.told(False, holds, thing, thing)
            self.told(False, holds, ("one", 6, thing, 0, 1), thing)
            self.told(False, holds, ("steps", 6, thing, thing, thing, 1), None)

    def test_words_of_any_kind(self):
        for claim, paper in SMALL:
            for word in helper.wrong_words(tuple(helper.SHAPES)):
                self.assertIs(False, holds((word, *claim[1:]), paper))


class Truth(Case):
    def test_what_is_taken_is_true(self):
        taken = 0
        for claim, paper in SMALL:
            if claim[0] in ("comes", "never") and len(claim[2]) > 4:
                continue
            self.assertTrue(is_true(claim), claim)
            for bent in helper.all_bends(claim):
                if holds(bent, paper) and not (bent[0] in ("comes", "never") and len(bent[2]) > 4):
                    self.assertTrue(is_true(bent), (bent, paper))
                    taken += 1
        self.assertGreater(taken, 200)

    def test_of_rows_with_papers_by_chance(self):
        rng = random.Random(83)
        taken = 0
        for turn in range(4000):
            many = rng.randrange(1, 5)
            row = helper.random_joins(rng, many, rng.randrange(6))
            x, y = rng.randrange(many), rng.randrange(many)
            road = tuple([rng.randrange(len(row)) for step in range(rng.randrange(4))]) if row else ()
            around = tuple([z for z in range(many) if rng.random() < 0.5])
            moment = rng.randrange(len(row) + 2)
            strikes = tuple([number for number in range(len(row)) if rng.random() < 0.4])
            claims = [(("one", many, row, x, y), road), (("apart", many, row, x, y), around),
                      (("first", many, row, x, y, moment), (road, around)),
                      (("strikes", many, row, x, y, len(strikes)), (strikes, (road,) * len(strikes)))]
            for claim, paper in claims:
                self.assertIs(helper.holds_by_words(claim, paper), holds(claim, paper))
                if holds(claim, paper):
                    self.assertTrue(is_true(claim), (claim, paper))
                    taken += 1
        self.assertGreater(taken, 1000)

    def test_of_tellings_with_papers_by_chance(self):
        rng = random.Random(84)
        taken = 0
        for turn in range(4000):
            many, rest = rng.randrange(1, 4), rng.choice([0, 0, 2, 3, 6])
            tellings = tuple([(rng.randrange(many), rng.randrange(many), rng.randrange(-3, 4))
                              for step in range(rng.randrange(1, 4))])
            road = tuple([(rng.randrange(len(tellings)), rng.choice([1, -1])) for step in range(rng.randrange(4))])
            numbers = tuple([rng.randrange(-3, 4) for x in range(many)])
            x, y, more = rng.randrange(many), rng.randrange(many), rng.randrange(-3, 6)
            claims = [(("differ", many, rest, tellings, x, y, more), road), (("fit", many, rest, tellings), numbers),
                      (("clash", many, rest, tellings), road)]
            for claim, paper in claims:
                self.assertIs(helper.holds_by_words(claim, paper), holds(claim, paper))
                if holds(claim, paper):
                    self.assertTrue(is_true(claim), (claim, paper))
                    taken += 1
        self.assertGreater(taken, 300)

    def test_of_ties_with_all_papers(self):
        rng = random.Random(85)
        for turn in range(60):
            many = rng.randrange(1, 5)
            ties = tuple([(x, y, rng.randrange(3)) for x, y in helper.random_joins(rng, many, rng.randrange(6))])
            best = least_weight(many, ties)
            taken = []
            for chosen in itertools.chain(*[itertools.combinations(range(len(ties)), how) for how in range(5)]):
                for worth in range(9):
                    claim = ("forest", many, ties, worth)
                    self.assertIs(helper.holds_by_words(claim, chosen), holds(claim, chosen))
                    if holds(claim, chosen):
                        self.assertEqual(best, worth)
                        taken.append(chosen)
            self.assertGreater(len(taken), 0)

    def test_of_small_boards_with_all_papers(self):
        lines = [line for how in range(1, 5) for line in itertools.permutations(range(4), how)]
        for row in itertools.chain(*[itertools.permutations(range(4), how) for how in range(5)]):
            walls = [wall for wall in lines if holds(("shut", 2, 2, row), wall)]
            self.assertEqual(not helper.seeps_by_places(2, 2, row), len(walls) > 0)
            for moment in range(len(row) + 2):
                claim = ("through", 2, 2, row, moment)
                papers = [(road, wall) for road in lines for wall in lines if holds(claim, (road, wall))]
                self.assertEqual(is_true(claim), len(papers) > 0)

    def test_of_all_small_forests(self):
        for many in (1, 2, 3, 4):
            for join in helper.JOINS:
                for ups in helper.all_forests(many):
                    never = [x for x in range(many) if holds(("never", join, ups), x)]
                    self.assertEqual(comes(join, ups), never == [])


class Alone(Case):
    def test_it_imports_stages_one_to_three_alone(self):
        package = pathlib.Path(__file__).resolve().parent.parent / "lotheads"
        waiting = ["checker"]
        for name in waiting:
            for node in ast.walk(ast.parse((package / f"{name}.py").read_text())):
                self.assertNotIsInstance(node, ast.Import)
                if isinstance(node, ast.ImportFrom) and node.module.split(".")[1] not in waiting:
                    waiting.append(node.module.split(".")[1])
        self.assertLessEqual(set(waiting), {"checker", "errors", "forests", "finds", "stores", "deeds"})
