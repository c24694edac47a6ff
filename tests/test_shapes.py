"""Shapes: promises 9 and 10, and 2 and 3 as far as they go for them."""

import random

from lotheads.errors import NoForest, NoJoin, NoMany
from lotheads.shapes import can_come, highest
from tests import helper
from tests.helper import JOINS, Case


def forests_that_come(many, join):
    """All forests that come by joins from single things, with no way made short: by doing all joins."""
    first = helper.Model(many, join, "none").store()
    stores = {first: True}
    waiting = [first]
    while waiting:
        store = waiting.pop()
        for x in range(many):
            for y in range(many):
                model = helper.model_of(store)
                model.join_two(x, y)
                behind = model.store()
                if behind not in stores:
                    stores[behind] = True
                    waiting.append(behind)
    return {store[2] for store in stores}


def steps_down(ups, x):
    return max([helper.way(ups, y).index(x) for y in range(len(ups)) if x in helper.way(ups, y)])


def can_at(join, ups, x):
    """The words of promise 10, at one thing."""
    children = [y for y in range(len(ups)) if ups[y] == x and y != x]
    if join == "size":
        sizes = sorted([helper.size(ups, y) for y in children])
        return all([sizes[at] <= 1 + sum(sizes[:at]) for at in range(len(sizes))])
    if join == "rank":
        below = {steps_down(ups, y) for y in children}
        return below == set(range(steps_down(ups, x)))
    if join == "names":
        return all([y > x for y in children])
    return True


def grown_forests(rng, count):
    """Forests of up to forty things that joins made, some with one up changed thereafter."""
    forests = []
    while len(forests) < count:
        many = rng.randrange(5, 41)
        joins = helper.random_joins(rng, many, rng.randrange(4 * many))
        ups = helper.model_by(many, joins, rng.choice(JOINS)).ups
        forests.append(ups)
        changed = helper.with_place(ups, rng.randrange(many), rng.randrange(many))
        if helper.comes_to_heads(changed):
            forests.append(changed)
    return forests


class RowCase(Case):
    def check_row(self, many, row):
        self.assertIs(tuple, type(row))
        self.assertTrue(helper.plain(row))
        for pair in row:
            self.assertIs(tuple, type(pair))
            self.assertEqual(2, len(pair))
            for x in pair:
                self.assertIs(int, type(x))
                self.assertIn(x, range(many))

    def run_joins(self, many, join, row):
        """The forest behind the row, each join of which must be of two lots."""
        self.check_row(many, row)
        model = helper.Model(many, join, "none")
        for x, y in row:
            self.assertTrue(model.join_two(x, y)[0])
        return model.ups


class Highest(RowCase):
    def test_heights_and_rows(self):
        for many in range(1, 41):
            for join in JOINS:
                told = highest(many, join)
                self.assertIs(tuple, type(told))
                height, row = told
                expected = helper.doubled(many) if join in ("size", "rank") else many - 1
                self.same(expected, height)
                self.assertEqual(many - 1, len(row))
                ups = self.run_joins(many, join, row)
                self.assertEqual(height, helper.height(ups))
                self.assertEqual(1, len(helper.lots(ups)))
                self.told(told, highest, many, join)

    def test_by_hand(self):
        self.same((0, ()), highest(1, "rank"))
        self.same((0, ()), highest(1, "names"))
        self.same([1, 1, 2, 2, 3, 5, 5], [highest(many, "size")[0] for many in (2, 3, 4, 7, 8, 32, 40)])
        self.same([1, 2, 39], [highest(many, "told")[0] for many in (2, 3, 40)])

    def test_no_store_that_comes_is_higher(self):
        for many in (1, 2, 3, 4, 5):
            for join in JOINS:
                heights = [helper.height(ups) for ups in forests_that_come(many, join)]
                self.assertEqual(max(heights), highest(many, join)[0])


class WhatComes(RowCase):
    def check(self, join, ups):
        """Whether the forest comes, what is told of it being held against the words and the joins."""
        told = can_come(join, ups)
        self.assertIs(tuple, type(told))
        self.assertEqual(2, len(told))
        wrong = [x for x in range(len(ups)) if not can_at(join, ups, x)]
        if wrong:
            self.same(("never", wrong[0]), told)
        else:
            self.assertEqual("comes", told[0])
            self.assertEqual(ups, self.run_joins(len(ups), join, told[1]))
        self.told(told, can_come, join, ups)
        return not wrong

    def test_all_forests_of_up_to_five_things(self):
        for many in (1, 2, 3, 4, 5):
            forests = helper.all_forests(many)
            for join in JOINS:
                comes = forests_that_come(many, join)
                for ups in forests:
                    self.assertEqual(ups in comes, self.check(join, ups), (join, ups))

    def test_by_hand(self):
        self.same(("comes", ()), can_come("size", (0, 1, 2)))
        self.same(("comes", ((1, 0),)), can_come("size", (1, 1)))
        self.same(("never", 0), can_come("size", (0, 0, 1)))
        self.same(("never", 1), can_come("rank", (1, 1, 3, 1, 3, 3, 5)))
        self.same(("never", 2), can_come("names", (2, 1, 2)))
        self.same(("never", 1), can_come("names", (1, 2, 2)))
        self.same("comes", can_come("told", (1, 2, 2))[0])

    def test_the_least_of_several_things_is_told(self):
        chain = helper.chain(40, True)
        self.same(("never", 2), can_come("size", chain))
        self.same(("never", 2), can_come("rank", chain))
        self.same(("never", 1), can_come("names", chain))
        down = helper.chain(40, False)
        self.same(("never", 0), can_come("size", down))
        self.same(("never", 0), can_come("rank", down))

    def test_many_forests(self):
        forests = helper.many_forests(10, 40) + grown_forests(random.Random(10), 120)
        for join in JOINS:
            taken = [self.check(join, ups) for ups in forests]
            self.assertIn(True, taken)
            self.assertEqual(join != "told", False in taken)

    def test_a_low_child_may_be_greater_than_a_high_one(self):
        # Under 0 are 1 alone, 2 with four things right under it, and 7 with three of which one is two steps below.
        ups = (0, 0, 0, 2, 2, 2, 2, 0, 7, 7, 9)
        rng = random.Random(9)
        for turn in range(40):
            order = rng.sample(range(11), 11)
            again = [0] * 11
            for x in range(11):
                again[order[x]] = order[ups[x]]
            self.assertTrue(self.check("rank", tuple(again)))
            self.assertFalse(self.check("size", tuple(again)))

    def test_all_that_joins_make_comes(self):
        rng = random.Random(11)
        for turn in range(60):
            many = rng.choice([1, 2, 7, 16, 33, 40])
            joins = helper.random_joins(rng, many, rng.randrange(61))
            for join in JOINS:
                self.assertTrue(self.check(join, helper.model_by(many, joins, join).ups))

    def test_the_highest_come(self):
        for many in (1, 2, 31, 32, 33, 40):
            for join in JOINS:
                ups = helper.model_by(many, highest(many, join)[1], join).ups
                self.assertTrue(self.check(join, ups))


class Refusals(Case):
    def test_highest(self):
        for wrong in helper.wrong_manies():
            self.refused(NoMany, highest, wrong, "size")
            self.refused(NoMany, highest, wrong, "none")
        for wrong in helper.wrong_words(JOINS):
            self.refused(NoJoin, highest, 3, wrong)
            self.refused(NoMany, highest, 0, wrong)
            self.refused(NoMany, highest, True, wrong)

    def test_can_come(self):
        for wrong in helper.wrong_words(JOINS):
            self.refused(NoJoin, can_come, wrong, (0, 0))
            self.refused(NoJoin, can_come, wrong, (1, 0))
            self.refused(NoJoin, can_come, wrong, [0])
        for wrong in helper.wrong_forests():
            self.refused(NoJoin, can_come, "none", wrong)
            for join in JOINS:
                self.refused(NoForest, can_come, join, wrong)
