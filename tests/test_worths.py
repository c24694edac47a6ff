"""Worths: promise 11, and 2 and 3 as far as they go for them."""

import random

from lotheads.errors import NoDeed, NoForest, NoWorth
from lotheads.stores import new_store
from lotheads.worths import paid, worth_of
from tests import helper
from tests.helper import JOINS, Case

PAYING = ("whole", "halves")


def worth(ups):
    return sum([helper.doubled(helper.size(ups, x)) for x in range(len(ups))])


def lot_size(ups, x):
    return helper.size(ups, helper.way(ups, x)[-1])


def most(ups, deed):
    one = lot_size(ups, deed[1])
    if deed[0] == "find":
        return 1 + helper.doubled(one)
    other = lot_size(ups, deed[2])
    both = 1 + helper.doubled(one) + 1 + helper.doubled(other)
    if helper.way(ups, deed[1])[-1] == helper.way(ups, deed[2])[-1]:
        return both
    return both + helper.doubled(one + other)


class Worths(Case):
    def test_by_hand(self):
        self.told(0, worth_of, (0,))
        self.told(0, worth_of, (0, 1, 2))
        self.told(1, worth_of, (0, 0))
        self.told(2 + 1 + 1, worth_of, (0, 0, 1, 2))
        self.told(2, worth_of, (3, 3, 3, 3))
        self.told(5, worth_of, (0,) * 40)
        self.told(sum([helper.doubled(size) for size in range(1, 41)]), worth_of, helper.chain(40, True))

    def test_many_forests(self):
        for ups in helper.many_forests(12, 60):
            self.told(worth(ups), worth_of, ups)


class Paid(Case):
    def check(self, store, deed):
        """The store behind the deed, what is told being held against the words."""
        model = helper.model_of(store)
        steps = model.do(deed)[1]
        told = (steps, most(store[2], deed), worth(store[2]), worth(model.ups))
        self.told(told, paid, store, deed)
        self.assertLessEqual(told[0] + told[3], told[1] + told[2])
        return model.store()

    def test_by_hand(self):
        store = ("told", "whole", (0, 0, 1, 2), (0,) * 4)
        self.told((3, 3, 4, 2), paid, store, ("find", 3))
        self.told((3, 6, 4, 2), paid, store, ("join", 3, 0))
        self.told((4, 6, 4, 2), paid, store, ("join", 3, 3))
        halves = ("told", "halves", (0, 0, 1, 2), (0,) * 4)
        self.told((2, 3, 4, 3), paid, halves, ("find", 3))
        self.told((0, 2 + 1, 0, 1), paid, new_store(3, "size", "whole"), ("join", 2, 1))
        self.told((0, 2, 0, 0), paid, new_store(3, "size", "whole"), ("join", 1, 1))
        self.told((0, 1, 0, 0), paid, new_store(1, "rank", "halves"), ("find", 0))

    def test_unlike_sizes_count_ahead_of_the_deed(self):
        store = ("size", "halves", (0, 0, 0, 3, 3, 3, 3), (3, 1, 1, 4, 1, 1, 1))
        self.told((2, (1 + 1) + (1 + 2) + 2, 1 + 2, 2 + 1), paid, store, ("join", 1, 4))

    def test_rows_by_all_ways_of_joining(self):
        rng = random.Random(13)
        for turn in range(25):
            many = rng.choice([1, 2, 3, 4, 7, 8, 20, 40])
            row = helper.random_row(rng, many, rng.choice([10, 60]))
            for join in JOINS:
                for short in PAYING:
                    self.check_row(new_store(many, join, short), row)

    def check_row(self, store, row):
        told = []
        at = store
        for deed in row:
            told.append(paid(at, deed))
            at = self.check(at, deed)
        steps = sum([part[0] for part in told])
        paying = sum([part[1] for part in told])
        self.assertLessEqual(steps, paying + worth(store[2]) - worth(at[2]))

    def test_chains_whose_ways_get_short(self):
        for short in PAYING:
            for ups in (helper.chain(40, True), helper.chain(39, False)):
                store = ("told", short, ups, (0,) * len(ups))
                self.check_row(store, tuple([("find", x) for x in range(len(ups))]))
                self.check_row(store, tuple([("join", x, len(ups) - 1 - x) for x in range(len(ups))]))

    def test_all_finds_in_many_forests(self):
        for ups in helper.many_forests(14, 20):
            for short in PAYING:
                for x in range(0, len(ups), 4):
                    self.check(("told", short, ups, (0,) * len(ups)), ("find", x))


class Refusals(Case):
    def test_no_forest_of_any_kind(self):
        for wrong in helper.wrong_forests():
            self.refused(NoForest, worth_of, wrong)

    def test_other_manners_have_no_worth(self):
        for join in JOINS:
            for short in ("none", "splits", "one"):
                self.refused(NoWorth, paid, new_store(3, join, short), ("find", 0))
                self.refused(NoWorth, paid, new_store(3, join, short), ("join", 0, 1))

    def test_no_deed_of_any_kind(self):
        for many in (1, 3, 40):
            for wrong in helper.wrong_deeds(many):
                for short in PAYING:
                    self.refused_at(0, NoDeed, paid, new_store(many, "names", short), wrong)

    def test_no_worth_goes_ahead_of_no_deed(self):
        for wrong in helper.wrong_deeds(3):
            for short in ("none", "splits", "one"):
                self.refused(NoWorth, paid, new_store(3, "rank", short), wrong)
