"""Stores: promise 6, the doublings of 8, and 2 as far as it goes for them."""

from lotheads.errors import NoJoin, NoMany, NoShort
from lotheads.stores import doublings, new_store
from tests import helper
from tests.helper import JOINS, SHORTS, Case


class NewStores(Case):
    def test_by_hand(self):
        self.told(("size", "none", (0, 1, 2), (1, 1, 1)), new_store, 3, "size", "none")
        self.told(("rank", "whole", (0, 1, 2), (0, 0, 0)), new_store, 3, "rank", "whole")
        self.told(("told", "halves", (0,), (0,)), new_store, 1, "told", "halves")
        self.told(("names", "one", (0, 1), (0, 0)), new_store, 2, "names", "one")

    def test_all_of_them(self):
        for many in range(1, 41):
            for join in JOINS:
                for short in SHORTS:
                    marks = (1 if join == "size" else 0,) * many
                    self.told((join, short, tuple(range(many)), marks), new_store, many, join, short)


class Refusals(Case):
    def test_no_many_of_any_kind(self):
        for wrong in helper.wrong_manies():
            self.refused(NoMany, new_store, wrong, "size", "none")

    def test_no_join_of_any_kind(self):
        for wrong in helper.wrong_words(JOINS) + list(SHORTS):
            self.refused(NoJoin, new_store, 3, wrong, "none")

    def test_no_short_of_any_kind(self):
        for wrong in helper.wrong_words(SHORTS) + list(JOINS):
            self.refused(NoShort, new_store, 3, "rank", wrong)

    def test_their_order(self):
        for wrong in helper.wrong_things():
            self.refused(NoMany, new_store, wrong, wrong, wrong)
            self.refused(NoMany, new_store, wrong, "rank", wrong)
            self.refused(NoMany, new_store, wrong, wrong, "none")
            self.refused(NoJoin, new_store, 40, wrong, wrong)
        self.refused(NoMany, new_store, 41, "none", "size")
        self.refused(NoJoin, new_store, 1, "none", "size")


class Doublings(Case):
    def test_small_numbers(self):
        self.assertEqual([0, 1, 1, 2, 2, 2, 2, 3, 3], [doublings(number) for number in range(1, 10)])
        for number in range(1, 3000):
            self.same(helper.doubled(number), doublings(number))

    def test_beside_each_doubling(self):
        for times in range(1, 30):
            self.same(times - 1, doublings(2 ** times - 1))
            self.same(times, doublings(2 ** times))
            self.same(times, doublings(2 ** times + 1))
        self.same(29, doublings(999999999))
