"""Rows without a join: promise 16, and 2, 3, 4, 7 and 13 as far as they go for it."""

from lotheads.errors import NoDeed, NoMany, NoNumber
from lotheads.without import without
from tests import helper
from tests.helper import Case

ROW = ((0, 1), (2, 3), (1, 0), (4, 4), (3, 1), (2, 0))
ROWS = helper.rows_of_joins(33) + [(6, ROW), (5, ROW)]


def left_out(row, number):
    return row[:number] + row[number + 1:]


def changed_by_flooding(many, row, number):
    rest = left_out(row, number)
    changed = []
    for later in range(number + 1, len(row)):
        if helper.is_real(many, row, later) != helper.is_real(many, rest, later - 1):
            changed.append(later)
    return tuple(changed)


class Without(Case):
    def test_by_hand(self):
        self.told(((2, 0, 2, 2, 4, 5), ()), without, 6, ROW, 2)
        self.told(((2, 0, 2, 2, 4, 5), ()), without, 6, ROW, 3)
        self.told(((2, 0, 2, 2, 4, 5), ()), without, 6, ROW, 5)
        self.told(((1, 2, 2, 2, 4, 5), (2,)), without, 6, left_out(ROW, 4), 0)
        self.told(((2, 0, 2, 2, 4, 5), (5,)), without, 6, ROW, 4)
        self.told(((0, 0), ()), without, 2, ((0, 1), (1, 0)), 1)
        self.told(((1, 1), (1,)), without, 2, ((0, 1), (1, 0)), 0)
        self.told(((0, 1), ()), without, 2, ((0, 1),), 0)
        self.told(((0,), ()), without, 1, ((0, 0),), 0)

    def test_a_join_left_out_for_which_a_much_later_one_comes(self):
        row = ((0, 1), (1, 2), (2, 3), (3, 0), (0, 2))
        for number in (0, 1, 2):
            self.assertEqual((3,), without(4, row, number)[1])
        self.assertEqual((), without(4, row, 3)[1])
        self.assertEqual((), without(4, row, 4)[1])

    def test_a_ring_of_forty(self):
        ring = tuple([(x, (x + 1) % 40) for x in range(40)])
        for number in range(39):
            self.assertEqual((39,), without(40, ring, number)[1])
        self.assertEqual((), without(40, ring, 39)[1])

    def test_many_rows(self):
        for many, row in ROWS:
            for number in sorted({0, 1, 2, len(row) // 3, len(row) // 2, len(row) - 2, len(row) - 1}):
                if 0 <= number < len(row):
                    ups = helper.model_by(many, left_out(row, number)).ups
                    changed = changed_by_flooding(many, row, number)
                    self.told((ups, changed), without, many, row, number)

    def test_at_most_one_later_answer_changes_and_none_by_an_idle_join(self):
        for many, row in ROWS:
            for number in range(len(row)):
                ups, changed = without(many, row, number)
                self.assertLessEqual(len(changed), 1)
                if not helper.is_real(many, row, number):
                    self.same((), changed)

    def test_told_tuples_are_new(self):
        self.assertIsNot(without(6, ROW, 0)[0], without(6, ROW, 0)[0])


class Refusals(Case):
    def test_no_many_of_any_kind(self):
        for wrong in helper.wrong_manies():
            self.refused(NoMany, without, wrong, ROW, 0)

    def test_no_row_of_any_kind(self):
        for wrong in helper.wrong_rows():
            self.refused_at(None, NoDeed, without, 6, wrong, 0)

    def test_no_join_at_each_place_of_a_row(self):
        for wrong in helper.wrong_joins(6):
            for number in range(len(ROW)):
                row = helper.with_place(ROW, number, wrong)
                for left in (0, number, len(ROW) - 1):
                    self.refused_at(number, NoDeed, without, 6, row, left)

    def test_the_first_of_several_is_told(self):
        row = helper.with_place(helper.with_place(ROW, 4, None), 2, (0, 6))
        self.refused_at(2, NoDeed, without, 6, row, 2)
        self.refused_at(2, NoDeed, without, 6, row, 0)

    def test_no_number_of_any_kind(self):
        for row in (ROW[:1], ROW, ROW * 10):
            for wrong in helper.wrong_numbers(len(row)):
                self.refused(NoNumber, without, 6, row, wrong)

    def test_a_row_of_no_joins_has_no_number(self):
        for wrong in [0, 1] + helper.wrong_numbers(1):
            self.refused(NoNumber, without, 3, (), wrong)

    def test_their_order(self):
        bad_row = ROW + ((0, 9),)
        for wrong in helper.wrong_numbers(41):
            self.refused(NoMany, without, wrong, wrong, wrong)
            self.refused(NoMany, without, 0, bad_row, wrong)
            self.refused(NoMany, without, 41, ROW, wrong)
            self.refused_at(6, NoDeed, without, 6, bad_row, wrong)
            self.refused_at(None, NoDeed, without, 6, list(ROW), wrong)
