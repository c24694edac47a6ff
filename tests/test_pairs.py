"""Pairs to be kept apart: promise 18, and 2, 4, 7, 13 and 14 as far as they go for them."""

import random

from lotheads.errors import NoDeed, NoMany, NoPair
from lotheads.pairs import first_clash
from tests import helper
from tests.helper import Case

ROW = ((0, 1), (2, 3), (1, 0), (4, 4), (3, 1), (2, 0))
PAIRS = ((0, 5), (1, 4), (3, 0), (1, 2))
ROWS = helper.rows_of_joins(37) + [(6, ROW)]


def first_by_flooding(many, row, pairs):
    """(MOMENT, PAIR), or None."""
    for moment in range(len(row) + 1):
        for number, (x, y) in enumerate(pairs):
            if y in helper.reached(many, row[:moment], x):
                return moment, number
    return None


class Clashes(Case):
    def test_by_hand(self):
        self.told(("clash", 5, 2, (4, 0)), first_clash, 6, ROW, PAIRS)
        self.told(("clash", 5, 0, (0, 4, 1)), first_clash, 6, ROW, ((0, 2), (3, 1)))
        self.told(("clash", 5, 0, (4,)), first_clash, 6, ROW, ((3, 1), (0, 2)))
        self.told(("clash", 2, 2, (1,)), first_clash, 6, ROW, ((3, 1), (0, 2), (3, 2)))
        self.told(("clash", 1, 3, (0,)), first_clash, 6, ROW, ((3, 1), (0, 2), (3, 2), (1, 0)))
        self.told(("none",), first_clash, 6, ROW, ((0, 5), (4, 1), (5, 4)))

    def test_the_first_of_several_at_one_moment(self):
        row = ((0, 1), (2, 3), (4, 5), (1, 3), (3, 5))
        self.told(("clash", 4, 1, (0, 3, 1)), first_clash, 6, row, ((0, 4), (0, 2), (1, 3), (0, 3)))
        self.told(("clash", 4, 1, (3,)), first_clash, 6, row, ((0, 4), (3, 1), (2, 0)))
        self.told(("clash", 1, 0, (0,)), first_clash, 6, row, ((0, 1), (1, 0), (0, 1)))
        self.told(("clash", 1, 0, (0,)), first_clash, 6, row, ((1, 0),) * 60)

    def test_no_pairs_and_no_joins(self):
        self.told(("none",), first_clash, 6, ROW, ())
        self.told(("none",), first_clash, 6, (), PAIRS)
        self.told(("none",), first_clash, 1, (), ())
        self.told(("none",), first_clash, 1, ((0, 0),) * 60, ())

    def test_a_clash_by_the_last_join(self):
        row = ((0, 1),) * 59 + ((1, 2),)
        self.told(("clash", 60, 0, (0, 59)), first_clash, 3, row, ((0, 2), (2, 1)))
        self.told(("none",), first_clash, 3, row[:59], ((0, 2), (2, 1)))

    def test_many_rows(self):
        rng = random.Random(38)
        for many, row in ROWS:
            every = [(x, y) for x in range(many) for y in range(many) if x != y]
            for count in (0, 1, 2, 5, 20):
                pairs = tuple(rng.sample(every, min(count, len(every))))
                self.check(many, row, pairs)

    def check(self, many, row, pairs):
        told = first_clash(many, row, pairs)
        self.told(told, first_clash, many, row, pairs)
        first = first_by_flooding(many, row, pairs)
        if first is None:
            self.same(("none",), told)
            return
        word, moment, number, road = told
        self.same(("clash", *first), (word, moment, number))
        x, y = pairs[number]
        self.check_real_road(many, row, x, y, road)
        self.assertEqual(moment, max(road) + 1)


class Refusals(Case):
    def test_no_many_of_any_kind(self):
        for wrong in helper.wrong_manies():
            self.refused(NoMany, first_clash, wrong, ROW, PAIRS)

    def test_no_row_of_any_kind(self):
        for wrong in helper.wrong_rows():
            self.refused_at(None, NoDeed, first_clash, 6, wrong, PAIRS)

    def test_no_join_at_each_place_of_a_row(self):
        for wrong in helper.wrong_joins(6):
            for number in range(len(ROW)):
                row = helper.with_place(ROW, number, wrong)
                self.refused_at(number, NoDeed, first_clash, 6, row, PAIRS)
                self.refused_at(number, NoDeed, first_clash, 6, row + (None,), ())

    def test_no_tuple_of_pairs_of_any_kind(self):
        for wrong in helper.wrong_rows() + [list(PAIRS), [], {(0, 1): 0}, {(0, 1)}, "01", (0, 1), ((0, 1), 2)]:
            self.refused(NoPair, first_clash, 6, ROW, wrong)
            self.refused(NoPair, first_clash, 6, (), wrong)

    def test_no_pair_at_each_place(self):
        for wrong in helper.wrong_pairs(6):
            self.refused(NoPair, first_clash, 6, ROW, (wrong,))
            for number in range(len(PAIRS)):
                self.refused(NoPair, first_clash, 6, ROW, helper.with_place(PAIRS, number, wrong))

    def test_a_pair_behind_one_that_clashes_counts_too(self):
        self.refused(NoPair, first_clash, 6, ROW, ((0, 1),) * 59 + ((1, 1),))
        self.refused(NoPair, first_clash, 6, ROW, ((0, 1),) * 59 + ((1, 6),))

    def test_their_order(self):
        bad_row = ROW + ((0, 9),)
        for wrong in [wrong for wrong in helper.wrong_numbers(41) if wrong != ()]:
            self.refused(NoMany, first_clash, wrong, wrong, wrong)
            self.refused(NoMany, first_clash, 41, bad_row, ((0, 0),))
            self.refused_at(6, NoDeed, first_clash, 6, bad_row, wrong)
            self.refused_at(6, NoDeed, first_clash, 6, bad_row, (wrong,))
            self.refused_at(None, NoDeed, first_clash, 6, list(ROW), wrong)
            self.refused(NoPair, first_clash, 6, ROW, wrong)
