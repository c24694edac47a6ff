"""Webs: promises 24 and 25, and 2, 4 and 7 as far as they go for them."""

import itertools
import random

from lotheads.errors import NoDeed, NoMany, NoThing
from lotheads.webs import least_forest, narrowest, pieces
from tests import helper
from tests.helper import Case

TIES = ((0, 1, 4), (2, 3, 1), (1, 0, 2), (4, 4, 0), (3, 1, 4), (2, 0, 4), (0, 3, 5))


def ends(ties):
    return [tie[:2] for tie in ties]


def weight(ties, numbers):
    return sum([ties[number][2] for number in numbers])


def chosen_by_words(many, ties):
    """Gone through by weight and then by number, what the ones taken ahead leave apart is joined."""
    taken = []
    for number in sorted(range(len(ties)), key=lambda at: (ties[at][2], at)):
        x, y = ties[number][:2]
        if y not in helper.reached(many, [ties[at][:2] for at in taken], x):
            taken.append(number)
    return tuple(sorted(taken))


def least_weight(many, ties):
    """The least weight of ties that join all pieces, by growing each piece from its least thing."""
    total = 0
    for lot in helper.lots_by_joins(many, ends(ties)):
        grown = [lot[0]]
        while len(grown) < len(lot):
            out = [(by, x, y) for x, y, by in ties if (x in grown) != (y in grown)]
            by, x, y = min(out)
            grown.append(y if x in grown else x)
            total += by
    return total


def random_ties(rng, many, length):
    weights = rng.choice([[0], [0, 1], list(range(5)), list(range(1000)), [0, 10 ** 9 - 1]])
    return tuple([(x, y, rng.choice(weights)) for x, y in helper.random_joins(rng, many, length)])


def many_webs(seed):
    rng = random.Random(seed)
    every = [(6, TIES), (5, TIES), (1, ()), (40, ()), (1, ((0, 0, 3),) * 60), (2, ((0, 1, 0),) * 60)]
    for many in (2, 3, 4, 5, 8, 20, 40):
        for length in (1, 4, 12, 60):
            every += [(many, random_ties(rng, many, length)) for turn in range(3)]
    ring = [(x, (x + 1) % 40) for x in range(40)]
    every.append((40, tuple([(x, y, rng.randrange(3)) for x, y in ring])))
    every.append((40, tuple([(x, y, 40 - at) for at, (x, y) in enumerate(ring)])))
    return every


EVERY = many_webs(55)


class Forests(Case):
    def test_by_hand(self):
        self.told([(0, 1, 2, 3), (4,), (5,)], pieces, 6, TIES)
        self.told((7, (1, 2, 4)), least_forest, 6, TIES)
        self.told([(0,)], pieces, 1, ())
        self.told((0, ()), least_forest, 1, ())
        self.told([(0,)], pieces, 1, ((0, 0, 5),))
        self.told((0, ()), least_forest, 1, ((0, 0, 5),))
        self.told((3, (1,)), least_forest, 2, ((0, 1, 4), (1, 0, 3), (0, 1, 3)))
        self.told([(x,) for x in range(40)], pieces, 40, ())
        self.told((0, ()), least_forest, 40, ())

    def test_of_alike_weights_the_first_by_number(self):
        self.told((2, (0, 1)), least_forest, 3, ((0, 1, 1), (1, 2, 1), (2, 0, 1)))
        self.told((0, (0, 1)), least_forest, 3, ((2, 0, 0), (1, 2, 0), (1, 0, 0)))
        self.told((1, (0, 1)), least_forest, 3, ((2, 0, 1), (1, 2, 0), (1, 0, 1)))
        self.told((7, (0,)), least_forest, 2, ((0, 1, 7),) * 60)

    def test_many_webs(self):
        for many, ties in EVERY:
            self.told(helper.lots_by_joins(many, ends(ties)), pieces, many, ties)
            chosen = chosen_by_words(many, ties)
            self.told((weight(ties, chosen), chosen), least_forest, many, ties)
            self.assertEqual(least_weight(many, ties), least_forest(many, ties)[0])
            kept = [ties[number][:2] for number in chosen]
            self.assertEqual(pieces(many, ties), helper.lots_by_joins(many, kept))

    def test_no_ties_that_join_its_pieces_come_to_less(self):
        rng = random.Random(56)
        for turn in range(40):
            many = rng.randrange(2, 6)
            ties = random_ties(rng, many, 8)
            lots = helper.lots_by_joins(many, ends(ties))
            sums = []
            for count in range(len(ties) + 1):
                for numbers in itertools.combinations(range(len(ties)), count):
                    if helper.lots_by_joins(many, [ties[number][:2] for number in numbers]) == lots:
                        sums.append(weight(ties, numbers))
            self.assertEqual(min(sums), least_forest(many, ties)[0])


class Narrowest(Case):
    def check(self, many, ties, x, y):
        told = narrowest(many, ties, x, y)
        self.told(told, narrowest, many, ties, x, y)
        if y not in helper.reached(many, ends(ties), x):
            self.same(None, told)
            return
        if x == y:
            self.same((0, ()), told)
            return
        width, road = told
        enough = [by for by in {tie[2] for tie in ties}
                  if y in helper.reached(many, ends([tie for tie in ties if tie[2] <= by]), x)]
        self.same(min(enough), width)
        self.assertIs(tuple, type(road))
        self.assertEqual([], [number for number in road if number not in chosen_by_words(many, ties)])
        gone = helper.things_on(ties, x, road)
        self.assertEqual(y, gone[-1])
        self.assertEqual(len(gone), len(set(gone)))
        self.assertEqual(width, max([ties[number][2] for number in road]))

    def test_by_hand(self):
        self.told((2, (2,)), narrowest, 6, TIES, 0, 1)
        self.told((4, (2, 4, 1)), narrowest, 6, TIES, 0, 2)
        self.told((4, (1, 4, 2)), narrowest, 6, TIES, 2, 0)
        self.told((4, (2, 4)), narrowest, 6, TIES, 0, 3)
        self.told((1, (1,)), narrowest, 6, TIES, 3, 2)
        self.told(None, narrowest, 6, TIES, 0, 4)
        self.told(None, narrowest, 6, TIES, 5, 4)
        self.told((0, ()), narrowest, 6, TIES, 4, 4)
        self.told((0, ()), narrowest, 6, TIES, 2, 2)
        self.told((0, ()), narrowest, 1, (), 0, 0)
        self.told((0, (0,)), narrowest, 2, ((1, 0, 0),), 0, 1)

    def test_a_long_road_of_light_ties_ahead_of_a_short_heavy_one(self):
        ties = tuple([(x, x + 1, 3) for x in range(39)]) + ((0, 39, 4),)
        self.told((3, tuple(range(39))), narrowest, 40, ties, 0, 39)
        self.told((3, tuple(range(38, -1, -1))), narrowest, 40, ties, 39, 0)

    def test_many_webs(self):
        rng = random.Random(57)
        for many, ties in EVERY:
            pairs = [(x, y) for x in range(many) for y in range(many)]
            for x, y in rng.sample(pairs, min(len(pairs), 10)):
                self.check(many, ties, x, y)

    def test_alike_things(self):
        for many, ties in EVERY:
            for x in (0, many // 2, many - 1):
                self.told((0, ()), narrowest, many, ties, x, x)


class Refusals(Case):
    def calls(self, many, ties, x, y):
        return ((pieces, (many, ties)), (least_forest, (many, ties)), (narrowest, (many, ties, x, y)))

    def test_no_many_of_any_kind(self):
        for wrong in helper.wrong_manies():
            for function, arguments in self.calls(wrong, TIES, 0, 1):
                self.refused(NoMany, function, *arguments)

    def test_no_row_of_any_kind(self):
        for wrong in helper.wrong_rows() + [list(TIES)]:
            for function, arguments in self.calls(6, wrong, 0, 1):
                self.refused_at(None, NoDeed, function, *arguments)

    def test_no_tie_at_each_place_of_a_row(self):
        for wrong in helper.wrong_ties(6):
            for number in range(len(TIES)):
                ties = helper.with_place(TIES, number, wrong)
                for function, arguments in self.calls(6, ties, 0, 1):
                    self.refused_at(number, NoDeed, function, *arguments)

    def test_the_first_of_several_is_told(self):
        for first in range(len(TIES)):
            for second in range(first + 1, len(TIES)):
                ties = helper.with_place(helper.with_place(TIES, first, (0, 0, -1)), second, None)
                for function, arguments in self.calls(6, ties, 0, 1):
                    self.refused_at(first, NoDeed, function, *arguments)
        for function, arguments in self.calls(6, ((0, 1, 1),) * 59 + ((0, 1, True),), 0, 1):
            self.refused_at(59, NoDeed, function, *arguments)

    def test_no_thing_of_any_kind(self):
        for many in (5, 6, 40):
            for wrong in helper.wrong_numbers(many):
                self.refused(NoThing, narrowest, many, TIES, wrong, 0)
                self.refused(NoThing, narrowest, many, TIES, 0, wrong)
                self.refused(NoThing, narrowest, many, TIES, wrong, wrong)

    def test_their_order(self):
        bad = TIES + ((0, 1, -1),)
        for wrong in helper.wrong_numbers(41):
            for function, arguments in self.calls(wrong, wrong, wrong, wrong):
                self.refused(NoMany, function, *arguments)
            for function, arguments in self.calls(41, bad, wrong, wrong):
                self.refused(NoMany, function, *arguments)
            for function, arguments in self.calls(6, bad, wrong, wrong):
                self.refused_at(7, NoDeed, function, *arguments)
            for function, arguments in self.calls(6, list(TIES), wrong, wrong):
                self.refused_at(None, NoDeed, function, *arguments)
