"""Lots of two stores: promises 22 and 23, and 2 and 4 as far as they go for them."""

import random

from lotheads.errors import NoLots, NoMany, NoThing
from lotheads.forests import lots_of
from lotheads.lattice import both, chain, is_finer, is_lots, together
from tests import helper
from tests.helper import Case

ONE = [(0, 1), (2,), (3, 5), (4,)]
OTHER = [(0,), (1, 2), (3,), (4,), (5,)]


def lot_in(lots, x):
    return [lot for lot in lots if x in lot][0]


def finer(one, other):
    return all([set(lot) <= set(lot_in(other, lot[0])) for lot in one])


def joins_in(lots):
    return [(x, y) for lot in lots for x, y in zip(lot, lot[1:])]


def both_by_things(many, one, other):
    return sorted(set([tuple([y for y in lot_in(one, x) if y in lot_in(other, x)]) for x in range(many)]))


def how_far(one, other, x, y):
    """How many steps in lots of the one or the other lead from x to y, by widening; None where none do."""
    wet = {x}
    for steps in range(100):
        if y in wet:
            return steps
        wider = {end for start in wet for lots in (one, other) for end in lot_in(lots, start)}
        if wider == wet:
            return None
        wet = wider
    return None


def many_lots(seed):
    """(MANY, ONE, OTHER): all of three things, and more by chance."""
    rng = random.Random(seed)
    every = [(3, one, other) for one in helper.all_lots(3) for other in helper.all_lots(3)]
    every += [(1, [(0,)], [(0,)]), (6, ONE, OTHER)]
    single, whole = [(x,) for x in range(40)], [tuple(range(40))]
    every += [(40, single, whole), (40, whole, single), (40, single, single), (40, whole, whole)]
    for many in (2, 4, 5, 9, 20, 40):
        every += [(many, helper.random_lots(rng, many), helper.random_lots(rng, many)) for turn in range(12)]
    pairs = [(x, x + 1) for x in range(0, 40, 2)]
    shifted = [(0,)] + [(x, x + 1) for x in range(1, 39, 2)] + [(39,)]
    return every + [(40, pairs, shifted), (40, shifted, pairs)]


EVERY = many_lots(51)


class IsLots(Case):
    def test_lots_are_lots_as_lists_and_as_tuples(self):
        for many, one, other in EVERY:
            for lots in (one, other):
                self.told(True, is_lots, many, lots)
                self.told(True, is_lots, many, tuple(lots))

    def test_all_lots_of_few_things(self):
        for many in (1, 2, 3, 4, 5):
            for lots in helper.all_lots(many):
                self.told(True, is_lots, many, lots)
                for less in range(1, 6):
                    if less != many:
                        self.told(False, is_lots, less, lots)

    def test_others_are_none_of_any_kind(self):
        for many in (3, 6, 40):
            for wrong in helper.wrong_lots(many) + helper.wrong_numbers(many) + [(), 0, 1]:
                self.told(False, is_lots, many, wrong)

    def test_few_things(self):
        self.told(True, is_lots, 1, [(0,)])
        self.told(True, is_lots, 1, ((0,),))
        for wrong in ([], (), [()], [(0, 0)], [(0,), (0,)], [(1,)], [(True,)], [(False,)], [[0]], [0], (0,), ((),)):
            self.told(False, is_lots, 1, wrong)
        for wrong in ([(0, 1), (1,)], [(1,), (0,)], [(1, 0)], [(0,)], [(0, True)], [(0,), (True,)], [(0, 1), ()]):
            self.told(False, is_lots, 2, wrong)

    def test_told_lots_are_lots(self):
        for ups in helper.many_forests(52, 20):
            self.told(True, is_lots, len(ups), lots_of(ups))


class TwoStores(Case):
    def test_by_hand(self):
        self.told([(0, 1, 2), (3, 5), (4,)], together, 6, ONE, OTHER)
        self.told([(0,), (1,), (2,), (3,), (4,), (5,)], both, 6, ONE, OTHER)
        self.told([(0, 2), (1,), (3,)], both, 4, [(0, 2, 3), (1,)], ((0, 1, 2), (3,)))
        self.told(False, is_finer, 6, ONE, OTHER)
        self.told(True, is_finer, 3, [(0,), (1, 2)], [(0, 1, 2)])
        self.told(False, is_finer, 3, [(0, 1, 2)], [(0,), (1, 2)])
        self.told(True, is_finer, 3, [(0, 2), (1,)], ((0, 2), (1,)))
        self.told([(0,)], together, 1, [(0,)], ((0,),))
        self.told([(0,)], both, 1, ((0,),), [(0,)])

    def test_many_lots(self):
        for many, one, other in EVERY:
            joined = helper.lots_by_joins(many, joins_in(one) + joins_in(other))
            shared = both_by_things(many, one, other)
            for first in (one, tuple(one)):
                for second in (other, tuple(other)):
                    self.told(joined, together, many, first, second)
                    self.told(shared, both, many, first, second)
                    self.told(finer(one, other), is_finer, many, first, second)

    def test_the_finest_and_the_coarsest(self):
        every = helper.all_lots(4)
        for one in every:
            for other in every:
                joined, shared = together(4, one, other), both(4, one, other)
                self.assertIn(joined, every)
                self.assertIn(shared, every)
                self.same(True, is_finer(4, one, joined) and is_finer(4, other, joined))
                self.same(True, is_finer(4, shared, one) and is_finer(4, shared, other))
                for third in every:
                    if finer(one, third) and finer(other, third):
                        self.same(True, is_finer(4, joined, third))
                    if finer(third, one) and finer(third, other):
                        self.same(True, is_finer(4, third, shared))

    def test_told_lots_can_be_handed_in_and_changed(self):
        for many, one, other in EVERY:
            joined, shared = together(many, one, other), both(many, one, other)
            self.told(sorted(one), together, many, one, shared)
            self.told(sorted(one), both, many, one, joined)
            self.told(True, is_finer, many, shared, joined)

    def test_what_is_handed_in_and_changed_later_changes_nothing_told(self):
        one, other = [(0, 1), (2,)], [(0,), (1,), (2,)]
        told = together(3, one, other), both(3, one, other)
        one.clear()
        other.append(None)
        self.same(([(0, 1), (2,)], [(0,), (1,), (2,)]), told)


class Chains(Case):
    def check(self, many, one, other, x, y):
        told = chain(many, one, other, x, y)
        self.told(told, chain, many, one, other, x, y)
        steps = how_far(one, other, x, y)
        if steps is None:
            self.same(None, told)
            return
        self.assertIs(tuple, type(told))
        self.assertTrue(helper.plain(told))
        self.assertEqual((x, y, steps + 1), (told[0], told[-1], len(told)))
        for start, end in zip(told, told[1:]):
            self.assertTrue(end in lot_in(one, start) or end in lot_in(other, start))

    def test_by_hand(self):
        self.told((0, 1, 2), chain, 6, ONE, OTHER, 0, 2)
        self.told((2, 1, 0), chain, 6, ONE, OTHER, 2, 0)
        self.told((0, 1), chain, 6, ONE, OTHER, 0, 1)
        self.told((1, 2), chain, 6, ONE, OTHER, 1, 2)
        self.told((5, 3), chain, 6, OTHER, ONE, 5, 3)
        self.told((4,), chain, 6, ONE, OTHER, 4, 4)
        self.told((0,), chain, 1, [(0,)], [(0,)], 0, 0)
        self.told(None, chain, 6, ONE, OTHER, 0, 3)
        self.told(None, chain, 6, ONE, tuple(OTHER), 4, 0)

    def test_as_short_as_can_be(self):
        # By the one's lots alone it is far; a lot of the other one leads near.
        one = [(0, 1), (2, 3), (4, 5), (6, 7), (8,)]
        other = [(0, 8), (1, 2), (3, 4), (5, 6), (7,)]
        self.told((8, 0, 1, 2, 3, 4, 5, 6, 7), chain, 9, one, other, 8, 7)
        self.told((1, 0, 8), chain, 9, one, other, 1, 8)
        near = [(0, 8), (1, 2), (3, 4), (5, 6, 7)]
        self.told((8, 0, 1, 2, 3, 4, 5), chain, 9, one, near, 8, 5)
        self.told((4, 5, 7), chain, 9, one, near, 4, 7)

    def test_a_chain_of_forty(self):
        many, pairs, shifted = EVERY[-2]
        self.told(tuple(range(40)), chain, many, pairs, shifted, 0, 39)
        self.told(tuple(range(39, -1, -1)), chain, many, shifted, pairs, 39, 0)

    def test_many_lots(self):
        rng = random.Random(53)
        for many, one, other in EVERY:
            pairs = [(x, y) for x in range(many) for y in range(many)]
            for x, y in rng.sample(pairs, min(len(pairs), 12)):
                self.check(many, one, other, x, y)
                self.check(many, tuple(one), other, x, y)

    def test_a_chain_just_where_one_lot_has_both_together(self):
        for many, one, other in EVERY:
            joined = together(many, one, other)
            for y in range(many):
                self.assertEqual(y in joined[0], chain(many, one, other, 0, y) is not None)


class Refusals(Case):
    def calls(self, many, one, other, x, y):
        two = (many, one, other)
        return ((together, two), (both, two), (is_finer, two), (chain, (*two, x, y)))

    def test_no_many_of_any_kind(self):
        for wrong in helper.wrong_manies():
            self.refused(NoMany, is_lots, wrong, [(0,)])
            self.refused(NoMany, is_lots, wrong, wrong)
            for function, arguments in self.calls(wrong, [(0,)], [(0,)], 0, 0):
                self.refused(NoMany, function, *arguments)

    def test_no_lots_of_any_kind(self):
        for wrong in helper.wrong_lots(6) + helper.wrong_numbers(6) + [(), 0, 1]:
            for one, other in ((wrong, ONE), (ONE, wrong), (wrong, wrong)):
                for function, arguments in self.calls(6, one, other, 0, 1):
                    self.refused(NoLots, function, *arguments)

    def test_lots_of_more_or_fewer_things(self):
        for many in (5, 7, 40):
            for function, arguments in self.calls(many, ONE, OTHER, 0, 1):
                self.refused(NoLots, function, *arguments)

    def test_no_thing_of_any_kind(self):
        for wrong in helper.wrong_numbers(6):
            self.refused(NoThing, chain, 6, ONE, OTHER, wrong, 0)
            self.refused(NoThing, chain, 6, ONE, OTHER, 0, wrong)
            self.refused(NoThing, chain, 6, ONE, OTHER, wrong, wrong)

    def test_their_order(self):
        for wrong in helper.wrong_numbers(41):
            for function, arguments in self.calls(wrong, wrong, wrong, wrong, wrong):
                self.refused(NoMany, function, *arguments)
            for function, arguments in self.calls(0, ONE[1:], OTHER, wrong, wrong):
                self.refused(NoMany, function, *arguments)
            for function, arguments in self.calls(6, wrong, wrong, wrong, wrong):
                self.refused(NoLots, function, *arguments)
            self.refused(NoLots, chain, 6, ONE, OTHER[1:], wrong, 0)
            self.refused(NoLots, chain, 6, ONE[1:], OTHER, 0, wrong)
