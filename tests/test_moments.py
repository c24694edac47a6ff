"""Moments: promises 13 and 14, and 2 and 3 as far as they go for them."""

import random

from lotheads.errors import NoDeed, NoMany, NoMoment, NoThing
from lotheads.moments import first_moment, head_at, lots_at, times_of
from tests import helper
from tests.helper import Case

ROW = ((0, 1), (2, 3), (1, 0), (4, 4), (3, 1), (2, 0))


ROWS = helper.rows_of_joins(17) + [(6, ROW)]


def forests_behind(many, row):
    """The forest at each moment, from 0 to the row's length."""
    model = helper.Model(many, "size", "none")
    forests = [model.ups]
    for x, y in row:
        model.join_two(x, y)
        forests.append(model.ups)
    return forests


def times_by_forests(forests):
    times = []
    for x in range(len(forests[0])):
        under = [moment for moment, ups in enumerate(forests) if ups[x] != x]
        times.append(under[0] - 1 if under else None)
    return tuple(times)


class Times(Case):
    def test_by_hand(self):
        self.told(((0, 0, 2, 2, 4, 5), (None, 0, None, 1, None, None)), times_of, 6, ROW[:4])
        self.told(((2, 0, 2, 2, 4, 5), (4, 0, None, 1, None, None)), times_of, 6, ROW)
        self.told(((0,), (None,)), times_of, 1, ())
        self.told(((1, 1), (0, None)), times_of, 2, ((1, 0),))

    def test_many_rows(self):
        for many, row in ROWS:
            forests = forests_behind(many, row)
            self.told((forests[-1], times_by_forests(forests)), times_of, many, row)


class AtMoments(Case):
    def test_by_hand(self):
        self.told([(0,), (1,), (2,), (3,), (4,), (5,)], lots_at, 6, ROW, 0)
        self.told([(0, 1), (2,), (3,), (4,), (5,)], lots_at, 6, ROW, 1)
        self.told([(0, 1), (2, 3), (4,), (5,)], lots_at, 6, ROW, 4)
        self.told([(0, 1, 2, 3), (4,), (5,)], lots_at, 6, ROW, 5)
        self.told([(0, 1, 2, 3), (4,), (5,)], lots_at, 6, ROW, 6)
        self.told(1, head_at, 6, ROW, 0, 1)
        self.told(0, head_at, 6, ROW, 1, 1)
        self.told(0, head_at, 6, ROW, 4, 1)
        self.told(2, head_at, 6, ROW, 5, 1)
        self.told(2, head_at, 6, ROW, 6, 1)

    def test_all_moments_of_many_rows(self):
        for many, row in ROWS:
            for moment, ups in enumerate(forests_behind(many, row)):
                if many > 8 and moment % 7 and moment != len(row):
                    continue
                self.told(helper.lots(ups), lots_at, many, row, moment)
                for x in range(0, many, 1 if many < 9 else 5):
                    self.told(helper.way(ups, x)[-1], head_at, many, row, moment, x)

    def test_one_head_just_where_joins_lead(self):
        for many, row in ROWS:
            for moment in sorted({0, len(row) // 2, len(row)}):
                lots = lots_at(many, row, moment)
                for x in range(0, many, 4):
                    self.assertIn(helper.reached(many, row[:moment], x), lots)

    def test_a_told_list_that_is_changed_is_told_anew(self):
        told = lots_at(6, ROW, 5)
        told.pop()
        told[0] = None
        self.same([(0, 1, 2, 3), (4,), (5,)], lots_at(6, ROW, 5))


class FirstMoments(Case):
    def test_by_hand(self):
        self.told(("one", 1, (0,)), first_moment, 6, ROW, 0, 1)
        self.told(("one", 5, (0, 4, 1)), first_moment, 6, ROW, 0, 2)
        self.told(("one", 5, (1, 4, 0)), first_moment, 6, ROW, 2, 0)
        self.told(("one", 2, (1,)), first_moment, 6, ROW, 3, 2)
        self.told(("one", 0, ()), first_moment, 6, ROW, 3, 3)
        self.told(("one", 0, ()), first_moment, 6, ROW, 4, 4)
        self.told(("apart", (0, 1, 2, 3)), first_moment, 6, ROW, 1, 4)
        self.told(("apart", (4,)), first_moment, 6, ROW, 4, 1)
        self.told(("apart", (5,)), first_moment, 6, (), 5, 4)

    def test_alike_things(self):
        for many, row in ROWS:
            for x in (0, many // 2, many - 1):
                self.told(("one", 0, ()), first_moment, many, row, x, x)

    def test_many_rows(self):
        rng = random.Random(18)
        for many, row in ROWS:
            pairs = [(x, y) for x in range(many) for y in range(many)]
            for x, y in rng.sample(pairs, min(len(pairs), 60)):
                told = first_moment(many, row, x, y)
                self.check(many, row, x, y, told)
                self.told(told, first_moment, many, row, x, y)

    def check(self, many, row, x, y, told):
        lot = helper.reached(many, row, x)
        if y not in lot:
            self.same(("apart", lot), told)
            return
        word, moment, road = told
        self.same("one", word)
        moments = [at for at in range(len(row) + 1) if y in helper.reached(many, row[:at], x)]
        self.same(moments[0], moment)
        self.assertEqual(moment, max(road) + 1 if road else 0)
        if moment > 0:
            self.assertNotIn(y, helper.reached(many, row[:moment - 1], x))
        self.check_real_road(many, row, x, y, road)


class Refusals(Case):
    def calls(self, many, row, moment, x, y):
        return (
            (times_of, (many, row)), (head_at, (many, row, moment, x)), (lots_at, (many, row, moment)),
            (first_moment, (many, row, x, y)),
        )

    def test_no_many_of_any_kind(self):
        for wrong in helper.wrong_manies():
            for function, arguments in self.calls(wrong, ROW, 0, 0, 0):
                self.refused(NoMany, function, *arguments)
            for function, arguments in self.calls(wrong, (), 0, 0, 0):
                self.refused(NoMany, function, *arguments)

    def test_no_row_of_any_kind(self):
        for wrong in helper.wrong_rows():
            for function, arguments in self.calls(6, wrong, 0, 0, 0):
                self.refused_at(None, NoDeed, function, *arguments)

    def test_no_join_at_each_place_of_a_row(self):
        for wrong in helper.wrong_joins(6):
            for number in range(len(ROW)):
                row = helper.with_place(ROW, number, wrong)
                for function, arguments in self.calls(6, row, 0, 0, 0):
                    self.refused_at(number, NoDeed, function, *arguments)

    def test_the_first_of_several_is_told(self):
        for first in range(len(ROW)):
            for second in range(first + 1, len(ROW)):
                row = helper.with_place(helper.with_place(ROW, first, (0, 6)), second, None)
                for function, arguments in self.calls(6, row, 0, 0, 0):
                    self.refused_at(first, NoDeed, function, *arguments)

    def test_joins_behind_the_moment_count_too(self):
        row = ((0, 1),) * 59 + ((0, 2),)
        for function, arguments in self.calls(2, row, 1, 0, 1):
            self.refused_at(59, NoDeed, function, *arguments)

    def test_no_moment_of_any_kind(self):
        for row in ((), ROW, ROW * 10):
            for wrong in helper.wrong_numbers(len(row) + 1):
                self.refused(NoMoment, lots_at, 6, row, wrong)
                self.refused(NoMoment, head_at, 6, row, wrong, 0)

    def test_no_thing_of_any_kind(self):
        for many in (5, 6, 40):
            for wrong in helper.wrong_numbers(many):
                self.refused(NoThing, head_at, many, ROW, 6, wrong)
                self.refused(NoThing, first_moment, many, ROW, wrong, 0)
                self.refused(NoThing, first_moment, many, ROW, 0, wrong)
                self.refused(NoThing, first_moment, many, ROW, wrong, wrong)

    def test_their_order(self):
        bad_row = ROW + ((0, 9),)
        for wrong in helper.wrong_things():
            self.refused(NoMany, times_of, wrong, wrong)
            self.refused(NoMany, times_of, 41, bad_row)
            for function, arguments in self.calls(wrong, bad_row, wrong, wrong, wrong):
                self.refused(NoMany, function, *arguments)
            for function, arguments in self.calls(6, bad_row, wrong, wrong, wrong):
                self.refused_at(6, NoDeed, function, *arguments)
            for function, arguments in self.calls(6, list(ROW), wrong, wrong, wrong):
                self.refused_at(None, NoDeed, function, *arguments)
            self.refused(NoMoment, head_at, 6, ROW, 7, wrong)
            self.refused(NoMoment, head_at, 6, ROW, wrong, 6)
            self.refused(NoMoment, head_at, 6, ROW, wrong, wrong)
