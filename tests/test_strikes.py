"""Strikes: promise 17, and 2, 3, 4, 7 and 14 as far as they go for them."""

import random

from lotheads.errors import NoDeed, NoMany, NoPair, NoThing
from lotheads.strikes import least_strikes
from tests import helper
from tests.helper import Case

ROW = ((0, 1), (2, 3), (1, 0), (4, 4), (3, 1), (2, 0))
ROWS = helper.rows_of_joins(35) + [(6, ROW)]


def grid(wide, high):
    behind = [(x + wide * y, x + 1 + wide * y) for y in range(high) for x in range(wide - 1)]
    below = [(x + wide * y, x + wide * (y + 1)) for y in range(high - 1) for x in range(wide)]
    return tuple(behind + below)


class StrikesCase(Case):
    def check(self, many, row, x, y):
        """Strikes that do, and as many roads without a join in two: so none fewer do. Gives how many."""
        told = least_strikes(many, row, x, y)
        self.told(told, least_strikes, many, row, x, y)
        self.assertTrue(helper.plain(told))
        strikes, roads = told
        self.assertEqual([tuple, tuple, tuple], [type(told), type(strikes), type(roads)])
        self.assertEqual(sorted(set(strikes)), list(strikes))
        self.assertTrue(all([number in range(len(row)) for number in strikes]))
        others = [join for number, join in enumerate(row) if number not in strikes]
        self.assertNotIn(y, helper.reached(many, others, x))
        self.assertEqual(len(strikes), len(roads))
        gone = [number for road in roads for number in road]
        self.assertEqual(len(gone), len(set(gone)))
        for road in roads:
            self.assertIs(tuple, type(road))
            self.assertEqual(y, helper.things_on(row, x, road)[-1])
        return len(strikes)


class Strikes(StrikesCase):
    def test_by_hand(self):
        self.told(((0,), ((0,),)), least_strikes, 2, ((0, 1),), 0, 1)
        self.told(((0,), ((0,),)), least_strikes, 2, ((0, 1),), 1, 0)
        self.told(((), ()), least_strikes, 2, (), 0, 1)
        self.told(((), ()), least_strikes, 2, ((0, 0), (1, 1)), 0, 1)
        self.told(((), ()), least_strikes, 6, ROW, 4, 1)
        self.told(((), ()), least_strikes, 6, ROW, 1, 5)
        self.assertEqual(2, self.check(6, ROW, 0, 2))
        self.assertEqual(3, self.check(6, ROW, 0, 1))
        self.assertEqual(2, self.check(3, ((0, 1), (1, 2), (2, 0)), 0, 2))

    def test_neighbours_joined_many_times(self):
        for count in (1, 2, 3, 60):
            strikes, roads = least_strikes(3, ((0, 1),) * count, 1, 0)
            self.same(tuple(range(count)), strikes)
            self.same([(number,) for number in range(count)], sorted(roads))
            self.assertEqual(count, self.check(3, ((1, 2), (2, 1)) + ((0, 1),) * (count - 1) + ((1, 0),), 0, 1))
        self.assertEqual(1, self.check(3, ((0, 1),) * 59 + ((1, 2),), 0, 2))
        self.same((59,), least_strikes(3, ((0, 1),) * 59 + ((1, 2),), 0, 2)[0])

    def test_a_first_road_that_must_be_laid_anew(self):
        # The shortest road takes a join of both others, so that it alone leaves no second one.
        row = ((0, 1), (1, 2), (2, 3), (0, 4), (4, 5), (5, 2), (1, 6), (6, 7), (7, 3))
        self.assertEqual(2, self.check(8, row, 0, 3))
        self.assertEqual(2, self.check(8, tuple([(y, x) for x, y in row]), 3, 0))
        self.assertEqual(2, self.check(8, row[::-1], 0, 3))
        cross = ((0, 1), (0, 2), (1, 2), (1, 3), (2, 4), (3, 5), (4, 5), (2, 3))
        self.assertEqual(2, self.check(6, cross, 0, 5))

    def test_chains_rings_stars_all_with_all_and_grids(self):
        self.assertEqual(1, self.check(40, tuple([(x, x + 1) for x in range(39)]), 0, 39))
        self.assertEqual(2, self.check(40, tuple([(x, (x + 1) % 40) for x in range(40)]), 7, 29))
        self.assertEqual(1, self.check(40, tuple([(0, x) for x in range(1, 40)]), 5, 6))
        everyone = tuple([(x, y) for x in range(11) for y in range(x)])
        self.assertEqual(10, self.check(11, everyone, 0, 10))
        self.assertEqual(2, self.check(30, grid(6, 5), 0, 29))
        self.assertEqual(4, self.check(30, grid(6, 5), 8, 21))
        self.assertEqual(3, self.check(30, grid(6, 5), 3, 26))
        sides = tuple([(0, x) for x in range(2, 22)] + [(x, 1) for x in range(2, 22)])
        self.assertEqual(20, self.check(40, sides, 0, 1))
        self.assertEqual(20, self.check(40, sides + ((0, 0), (1, 1), (5, 5)), 1, 0))

    def test_two_knots_with_few_joins_between(self):
        one = tuple([(x, y) for x in range(7) for y in range(x)])
        other = tuple([(x + 7, y + 7) for x, y in one])
        for between in range(1, 7):
            row = one + tuple([(x, x + 7) for x in range(between)]) + other
            self.assertEqual(between, self.check(14, row, 6, 13))
            # Six can be struck around either thing as well.
            if between < 6:
                self.assertEqual(tuple(range(21, 21 + between)), least_strikes(14, row, 6, 13)[0])

    def test_many_rows(self):
        rng = random.Random(36)
        for many, row in ROWS:
            pairs = [(x, y) for x in range(many) for y in range(many) if x != y]
            for x, y in rng.sample(pairs, min(len(pairs), 25)):
                self.check(many, row, x, y)

    def test_none_just_where_the_things_are_apart(self):
        for many, row in ROWS:
            for y in range(1, many):
                apart = y not in helper.reached(many, row, 0)
                self.assertEqual(apart, least_strikes(many, row, 0, y) == ((), ()))


class Refusals(Case):
    def test_no_many_of_any_kind(self):
        for wrong in helper.wrong_manies():
            self.refused(NoMany, least_strikes, wrong, ROW, 0, 1)

    def test_no_row_of_any_kind(self):
        for wrong in helper.wrong_rows():
            self.refused_at(None, NoDeed, least_strikes, 6, wrong, 0, 1)

    def test_no_join_at_each_place_of_a_row(self):
        for wrong in helper.wrong_joins(6):
            for number in range(len(ROW)):
                row = helper.with_place(ROW, number, wrong)
                self.refused_at(number, NoDeed, least_strikes, 6, row, 0, 1)
                self.refused_at(number, NoDeed, least_strikes, 6, row + (None, (6, 6)), 0, 1)

    def test_no_thing_of_any_kind(self):
        for many in (5, 6, 40):
            for wrong in helper.wrong_numbers(many):
                self.refused(NoThing, least_strikes, many, ROW, wrong, 0)
                self.refused(NoThing, least_strikes, many, ROW, 0, wrong)
                self.refused(NoThing, least_strikes, many, ROW, wrong, wrong)

    def test_no_pair_of_alike_things(self):
        for many, row in ((1, ()), (6, ()), (6, ROW), (40, ROW)):
            for x in range(many):
                self.refused(NoPair, least_strikes, many, row, x, x)

    def test_their_order(self):
        bad_row = ROW + ((0, 9),)
        for wrong in helper.wrong_numbers(41):
            self.refused(NoMany, least_strikes, wrong, wrong, wrong, wrong)
            self.refused(NoMany, least_strikes, 41, bad_row, 0, 0)
            self.refused_at(6, NoDeed, least_strikes, 6, bad_row, wrong, wrong)
            self.refused_at(6, NoDeed, least_strikes, 6, bad_row, 0, 0)
            self.refused_at(None, NoDeed, least_strikes, 6, list(ROW), wrong, 1)
