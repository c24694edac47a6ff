"""Piles: promise 15, and 2, 4 and 13 as far as they go for them."""

import random

from lotheads.errors import NoBack, NoMany, NoMark, NoThing
from lotheads.moments import times_of
from lotheads.piles import Pile
from tests import helper
from tests.helper import Case

ROWS = helper.rows_of_joins(31)


def pile_of(many, row):
    return helper.joined(Pile(many), row)


class PileCase(Case):
    def stands(self, pile, many, row):
        """All that the pile tells is as of a new one on which just these joins were put."""
        self.told(helper.model_by(many, row).ups, pile.ups)
        self.told(helper.lots_by_joins(many, row), pile.lots)
        self.told(tuple(row), pile.joins)


class Piles(PileCase):
    def test_by_hand(self):
        pile = Pile(5)
        self.stands(pile, 5, ())
        self.same((0, 1, 2, 3, 4), pile.ups())
        self.same(True, pile.join(1, 0))
        self.same(False, pile.join(0, 1))
        self.same(False, pile.join(2, 2))
        self.same(True, pile.join(3, 0))
        self.same((1, 1, 2, 1, 4), pile.ups())
        self.same([(0, 1, 3), (2,), (4,)], pile.lots())
        self.same(((1, 0), (0, 1), (2, 2), (3, 0)), pile.joins())
        self.same(None, pile.back())
        self.same((1, 1, 2, 3, 4), pile.ups())
        self.same([(0, 1), (2,), (3,), (4,)], pile.lots())
        self.same(((1, 0), (0, 1), (2, 2)), pile.joins())
        self.same(None, pile.back_to(1))
        self.same((1, 1, 2, 3, 4), pile.ups())
        self.same(((1, 0),), pile.joins())
        self.same(None, pile.back())
        self.same((0, 1, 2, 3, 4), pile.ups())
        self.same((), pile.joins())

    def test_each_join_is_told_and_each_is_taken_back(self):
        for many, row in ROWS:
            pile = Pile(many)
            for number, (x, y) in enumerate(row):
                self.same(y not in helper.reached(many, row[:number], x), pile.join(x, y))
                self.same(row[:number + 1], pile.joins())
            self.stands(pile, many, row)
            for number in reversed(range(len(row))):
                self.same(None, pile.back())
                self.same(row[:number], pile.joins())
                self.same(helper.model_by(many, row[:number]).ups, pile.ups())
            self.stands(pile, many, ())

    def test_back_to_each_number(self):
        for many, row in ROWS:
            for number in sorted({0, 1, len(row) // 2, len(row) - 1, len(row)}):
                if 0 <= number <= len(row):
                    pile = pile_of(many, row)
                    self.same(None, pile.back_to(number))
                    self.stands(pile, many, row[:number])

    def test_back_to_all_that_stand_takes_nothing(self):
        pile = Pile(3)
        self.same(None, pile.back_to(0))
        self.stands(pile, 3, ())
        pile.join(0, 1)
        self.same(None, pile.back_to(1))
        self.stands(pile, 3, ((0, 1),))

    def test_idle_joins_stand_and_are_taken_back_alone(self):
        pile = pile_of(3, ((0, 1), (1, 0), (0, 0)))
        pile.back()
        self.stands(pile, 3, ((0, 1), (1, 0)))
        pile.back()
        self.stands(pile, 3, ((0, 1),))

    def test_joined_anew_behind_a_taking_back(self):
        # Were a mark left as it was, another head would stay: 0 had 3 of size.
        pile = pile_of(5, ((0, 1), (0, 2)))
        pile.back_to(0)
        self.same(True, pile.join(3, 4))
        self.same(True, pile.join(3, 2))
        self.same(True, pile.join(0, 3))
        self.stands(pile, 5, ((3, 4), (3, 2), (0, 3)))
        self.same((3, 1, 3, 3, 3), pile.ups())

    def test_joins_and_takings_back_by_chance(self):
        rng = random.Random(32)
        for many in (1, 2, 3, 5, 9, 40):
            pile = Pile(many)
            row = []
            for turn in range(150):
                chance = rng.random()
                if chance < 0.6 and len(row) < 60:
                    x, y = rng.randrange(many), rng.randrange(many)
                    self.same(y not in helper.reached(many, row, x), pile.join(x, y))
                    row.append((x, y))
                elif chance < 0.95 and row:
                    self.same(None, pile.back())
                    row.pop()
                else:
                    number = rng.randrange(len(row) + 1)
                    self.same(None, pile.back_to(number))
                    del row[number:]
                if turn % 5 == 0:
                    self.stands(pile, many, row)
            self.stands(pile, many, row)

    def test_told_joins_can_be_handed_in(self):
        for many, row in ROWS:
            pile = pile_of(many, row)
            self.same(pile.ups(), times_of(many, pile.joins())[0])

    def test_piles_do_not_share_anything(self):
        one, other = Pile(4), Pile(4)
        one.join(0, 1)
        self.stands(other, 4, ())
        other.join(2, 3)
        other.join(2, 0)
        one.back()
        self.stands(one, 4, ())
        self.stands(other, 4, ((2, 3), (2, 0)))

    def test_what_was_told_stays_as_it_was(self):
        pile = pile_of(4, ((0, 1), (2, 3)))
        ups, lots, joins = pile.ups(), pile.lots(), pile.joins()
        pile.join(0, 2)
        pile.back_to(0)
        self.same((0, 0, 2, 2), ups)
        self.same([(0, 1), (2, 3)], lots)
        self.same(((0, 1), (2, 3)), joins)
        lots.clear()
        self.stands(pile, 4, ())

    def test_every_tuple_told_is_new(self):
        pile = pile_of(4, ((0, 1), (2, 3)))
        self.assertIsNot(pile.ups(), pile.ups())
        self.assertIsNot(pile.joins(), pile.joins())
        self.assertIsNot(pile.lots()[0], pile.lots()[0])

    def test_the_class_itself_has_its_methods(self):
        for word in ("join", "back", "back_to", "ups", "lots", "joins"):
            self.assertIn(word, vars(Pile))


class Refusals(PileCase):
    def test_no_many_of_any_kind(self):
        for wrong in helper.wrong_manies():
            self.refused(NoMany, Pile, wrong)

    def test_no_thing_of_any_kind_changes_nothing(self):
        row = ((1, 0), (2, 2), (2, 1))
        for many in (4, 40):
            pile = pile_of(many, row)
            for wrong in helper.wrong_numbers(many):
                self.refused(NoThing, pile.join, wrong, 0)
                self.refused(NoThing, pile.join, 3, wrong)
                self.refused(NoThing, pile.join, wrong, wrong)
            self.stands(pile, many, row)
            self.same(True, pile.join(3, 0))
            self.stands(pile, many, row + ((3, 0),))

    def test_no_back(self):
        pile = Pile(3)
        for turn in range(3):
            self.refused(NoBack, pile.back)
            self.stands(pile, 3, ())
        pile.join(0, 1)
        pile.join(1, 1)
        pile.back()
        pile.back()
        self.refused(NoBack, pile.back)
        pile.join(0, 1)
        pile.back_to(0)
        self.refused(NoBack, pile.back)
        self.stands(pile, 3, ())

    def test_no_mark_of_any_kind_changes_nothing(self):
        for row in ((), ((1, 0),), ((1, 0), (2, 2), (2, 1)), ((0, 3),) * 60):
            pile = pile_of(4, row)
            for wrong in helper.wrong_numbers(len(row) + 1):
                self.refused(NoMark, pile.back_to, wrong)
            self.stands(pile, 4, row)

    def test_what_was_taken_back_is_no_mark_any_more(self):
        pile = pile_of(4, ((0, 1), (1, 2), (2, 3)))
        pile.back_to(1)
        self.refused(NoMark, pile.back_to, 2)
        self.refused(NoMark, pile.back_to, 3)
        self.stands(pile, 4, ((0, 1),))
