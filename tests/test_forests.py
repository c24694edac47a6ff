"""Forests: promise 4, and 2 as far as it goes for them."""

import itertools

from lotheads.errors import NoForest, NoThing
from lotheads.forests import depth_of, head_of, height_of, is_forest, lot_of, lots_of, size_of, way_of
from tests import helper
from tests.helper import Case

OF_A_THING = (head_of, depth_of, size_of, way_of, lot_of)
FORESTS = helper.many_forests(4, 60)


class WhatIsAForest(Case):
    def test_all_rows_of_up_to_four_ups(self):
        for many, count in ((1, 1), (2, 3), (3, 16), (4, 125)):
            taken = 0
            for ups in itertools.product(range(many), repeat=many):
                self.same(helper.comes_to_heads(ups), is_forest(ups))
                taken += is_forest(ups)
            self.assertEqual(count, taken)

    def test_many_forests_are(self):
        for ups in FORESTS:
            self.told(True, is_forest, ups)

    def test_wrong_ones_of_any_kind_are_not(self):
        for wrong in helper.wrong_forests():
            self.told(False, is_forest, wrong)

    def test_one_and_forty_things_but_neither_none_nor_forty_one(self):
        for many in (1, 2, 39, 40):
            self.told(True, is_forest, tuple(range(many)))
            self.told(True, is_forest, helper.chain(many, True))
        for many in (0, 41, 42, 80):
            self.told(False, is_forest, tuple(range(many)))
            self.told(False, is_forest, helper.chain(many, False)[:many])

    def test_truths_are_no_ups(self):
        for wrong in ((False,), (0, True), (True, 1), (False, 1), (0, False)):
            self.told(False, is_forest, wrong)

    def test_a_ring_anywhere_spoils_it(self):
        for at in range(39):
            ring = list(range(40))
            ring[at], ring[at + 1] = at + 1, at
            self.told(False, is_forest, tuple(ring))
        for length in range(2, 41):
            ring = tuple([(x + 1) % length for x in range(length)])
            self.told(False, is_forest, ring)
            self.told(False, is_forest, (ring + tuple([0] * 40))[:40])


class WhatIsTold(Case):
    def test_a_forest_by_hand(self):
        ups = (0, 0, 1, 1, 4, 4, 2)
        self.told(0, head_of, ups, 6)
        self.told(3, depth_of, ups, 6)
        self.told((6, 2, 1, 0), way_of, ups, 6)
        self.told((0, 1, 2, 3, 6), lot_of, ups, 6)
        self.told((4, 5), lot_of, ups, 4)
        self.told(4, size_of, ups, 1)
        self.told(5, size_of, ups, 0)
        self.told(1, size_of, ups, 6)
        self.told([(0, 1, 2, 3, 6), (4, 5)], lots_of, ups)
        self.told(3, height_of, ups)

    def test_lots_go_by_their_least_things_not_by_heads(self):
        self.told([(0, 3), (1, 2)], lots_of, (3, 2, 2, 3))
        self.told([(0, 4), (1, 3), (2,)], lots_of, (4, 3, 2, 3, 4))

    def test_one_thing(self):
        self.told(0, head_of, (0,), 0)
        self.told(0, depth_of, (0,), 0)
        self.told(1, size_of, (0,), 0)
        self.told((0,), way_of, (0,), 0)
        self.told((0,), lot_of, (0,), 0)
        self.told([(0,)], lots_of, (0,))
        self.told(0, height_of, (0,))

    def test_a_chain_of_forty(self):
        ups = helper.chain(40, True)
        for x in range(40):
            self.told(39, head_of, ups, x)
            self.told(39 - x, depth_of, ups, x)
            self.told(x + 1, size_of, ups, x)
            self.told(tuple(range(x, 40)), way_of, ups, x)
            self.told(tuple(range(40)), lot_of, ups, x)
        self.told(39, height_of, ups)

    def test_many_forests(self):
        for ups in FORESTS:
            lots = helper.lots(ups)
            self.told(lots, lots_of, ups)
            self.told(helper.height(ups), height_of, ups)
            for x in range(len(ups)):
                way = helper.way(ups, x)
                self.told(way[-1], head_of, ups, x)
                self.told(len(way) - 1, depth_of, ups, x)
                self.told(helper.size(ups, x), size_of, ups, x)
                self.told(way, way_of, ups, x)
                self.told([lot for lot in lots if x in lot][0], lot_of, ups, x)

    def test_a_told_list_that_is_changed_is_told_anew(self):
        ups = (0, 0, 2)
        told = lots_of(ups)
        told[0] = "gone"
        told.append((9,))
        self.same([(0, 1), (2,)], lots_of(ups))
        self.same((0, 1), lot_of(ups, 0))


class WhatIsRefused(Case):
    def test_no_forest_of_any_kind(self):
        for wrong in helper.wrong_forests():
            self.refused(NoForest, lots_of, wrong)
            self.refused(NoForest, height_of, wrong)
            for function in OF_A_THING:
                self.refused(NoForest, function, wrong, 0)

    def test_no_thing_of_any_kind(self):
        for ups in ((0,), (1, 1, 2), helper.chain(40, False)):
            for wrong in helper.wrong_numbers(len(ups)):
                for function in OF_A_THING:
                    self.refused(NoThing, function, ups, wrong)

    def test_no_forest_goes_ahead_of_no_thing(self):
        for ups in helper.wrong_forests():
            for x in (-1, 99, None, True, [0], "0"):
                for function in OF_A_THING:
                    self.refused(NoForest, function, ups, x)
        for x in helper.wrong_numbers(2):
            for function in OF_A_THING:
                self.refused(NoForest, function, (1, 0), x)
