"""Finds: promise 5, and 2 and 3 as far as they go for them."""

from lotheads.errors import NoForest, NoShort, NoThing
from lotheads.finds import found
from tests import helper
from tests.helper import SHORTS, Case

FORESTS = helper.many_forests(5, 40)


class Manners(Case):
    def test_a_way_of_even_length(self):
        ups = (0, 0, 1, 2, 3)
        self.told((0, (0, 0, 1, 2, 3), 4), found, ups, "none", 4)
        self.told((0, (0, 0, 0, 0, 0), 4), found, ups, "whole", 4)
        self.told((0, (0, 0, 0, 2, 2), 2), found, ups, "halves", 4)
        self.told((0, (0, 0, 0, 1, 2), 4), found, ups, "splits", 4)
        self.told((0, (0, 0, 1, 2, 2), 4), found, ups, "one", 4)

    def test_a_way_of_odd_length(self):
        ups = (0, 0, 1, 2, 3, 4)
        self.told((0, (0, 0, 1, 2, 3, 4), 5), found, ups, "none", 5)
        self.told((0, (0, 0, 0, 0, 0, 0), 5), found, ups, "whole", 5)
        self.told((0, (0, 0, 1, 1, 3, 3), 3), found, ups, "halves", 5)
        self.told((0, (0, 0, 0, 1, 2, 3), 5), found, ups, "splits", 5)
        self.told((0, (0, 0, 1, 2, 3, 3), 5), found, ups, "one", 5)

    def test_a_find_from_the_middle_leaves_what_is_below(self):
        ups = helper.chain(6, False)
        self.told((0, (0, 0, 0, 0, 3, 4), 3), found, ups, "whole", 3)
        self.told((0, (0, 0, 1, 1, 3, 4), 2), found, ups, "halves", 3)
        self.told((0, (0, 0, 0, 1, 3, 4), 3), found, ups, "splits", 3)
        self.told((0, (0, 0, 1, 1, 3, 4), 3), found, ups, "one", 3)

    def test_a_find_of_a_head_and_of_its_child(self):
        for short in SHORTS:
            self.told((2, (2, 1, 2), 0), found, (2, 1, 2), short, 2)
            self.told((1, (2, 1, 2), 0), found, (2, 1, 2), short, 1)
            self.told((2, (2, 1, 2), 1), found, (2, 1, 2), short, 0)
            self.told((0, (0,), 0), found, (0,), short, 0)

    def test_many_forests(self):
        for ups in FORESTS:
            for short in SHORTS:
                for x in range(len(ups)):
                    self.told(helper.find_by_way(ups, short, x), found, ups, short, x)

    def test_lots_and_heads_stay_and_nothing_gets_deeper(self):
        for ups in FORESTS:
            for short in SHORTS:
                for x in range(0, len(ups), 3):
                    head, behind, steps = found(ups, short, x)
                    self.assertEqual(helper.way(ups, x)[-1], head)
                    for y in range(len(ups)):
                        ahead, now = helper.way(ups, y), helper.way(behind, y)
                        self.assertEqual(ahead[-1], now[-1])
                        self.assertLessEqual(len(now), len(ahead))

    def test_finds_one_behind_the_other(self):
        for ups in (helper.chain(40, True), helper.chain(39, False)):
            for short in SHORTS:
                for x in range(len(ups)):
                    behind = found(ups, short, x)[1]
                    self.same(helper.find_by_way(ups, short, x)[1], behind)
                    ups = behind


class Refusals(Case):
    def test_no_forest_of_any_kind(self):
        for wrong in helper.wrong_forests():
            for short in SHORTS:
                self.refused(NoForest, found, wrong, short, 0)

    def test_no_short_of_any_kind(self):
        for wrong in helper.wrong_words(SHORTS):
            self.refused(NoShort, found, (0, 0), wrong, 1)

    def test_no_thing_of_any_kind(self):
        for short in SHORTS:
            for many in (1, 2, 40):
                for wrong in helper.wrong_numbers(many):
                    self.refused(NoThing, found, helper.chain(many, False), short, wrong)

    def test_their_order(self):
        for wrong in helper.wrong_forests():
            self.refused(NoForest, found, wrong, "other", 0)
            self.refused(NoForest, found, wrong, "none", 99)
            self.refused(NoForest, found, wrong, None, True)
        for wrong in helper.wrong_words(SHORTS):
            self.refused(NoForest, found, (1, 0), wrong, 0)
            self.refused(NoShort, found, (0, 0), wrong, 2)
            self.refused(NoShort, found, (0, 0), wrong, None)
        for wrong in helper.wrong_numbers(2):
            self.refused(NoForest, found, [0, 0], "whole", wrong)
            self.refused(NoShort, found, (0, 0), "wholes", wrong)
