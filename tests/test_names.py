"""Names: promise 21, and 2 and 4 as far as they go for them."""

import random

from lotheads.errors import NoJoin, NoMany, NoThing, NoWeight
from lotheads.names import Names
from tests import helper
from tests.helper import Case

BYS = ("least", "first", "weight")
WEIGHTS = (3, 0, 3, 7, 7, 1)
ROWS = helper.rows_of_joins(45)


def names_of(many, weights, row):
    return helper.joined(Names(many, weights), row)


def name_by_words(many, weights, row, x, by):
    lot = helper.reached(many, row, x)
    if by == "first":
        for thing in [thing for join in row for thing in join]:
            if thing in lot:
                return thing
    if by == "weight":
        return sorted(lot, key=lambda thing: (-weights[thing], thing))[0]
    return min(lot)


def sizes_by_lots(lots):
    counts = [len(lot) for lot in lots]
    return [(size, counts.count(size)) for size in range(1, 41) if size in counts]


class NamesCase(Case):
    def stands(self, names, many, weights, row):
        """All that is told is as of new names with just these joins."""
        lots = helper.lots_by_joins(many, row)
        self.told(sorted(lots, key=lambda lot: (-len(lot), lot[0])), names.lots)
        self.told(sizes_by_lots(lots), names.sizes)
        for x in range(many):
            for by in BYS:
                self.told(name_by_words(many, weights, row, x, by), names.name, x, by)


class ByHand(NamesCase):
    def test_lots_and_sizes(self):
        names = Names(6, WEIGHTS)
        self.same([(0,), (1,), (2,), (3,), (4,), (5,)], names.lots())
        self.same([(1, 6)], names.sizes())
        self.same(True, names.join(4, 5))
        self.same([(4, 5), (0,), (1,), (2,), (3,)], names.lots())
        self.same([(1, 4), (2, 1)], names.sizes())
        self.same(True, names.join(2, 1))
        self.same([(1, 2), (4, 5), (0,), (3,)], names.lots())
        self.same([(1, 2), (2, 2)], names.sizes())
        self.same(False, names.join(1, 2))
        self.same(False, names.join(3, 3))
        self.same(True, names.join(3, 4))
        self.same([(3, 4, 5), (1, 2), (0,)], names.lots())
        self.same([(1, 1), (2, 1), (3, 1)], names.sizes())

    def test_one_thing(self):
        names = Names(1, (0,))
        self.same(False, names.join(0, 0))
        self.same([(0,)], names.lots())
        self.same([(1, 1)], names.sizes())
        for by in BYS:
            self.same(0, names.name(0, by))

    def test_least_and_weight(self):
        names = names_of(6, WEIGHTS, ((4, 5), (3, 4), (2, 1), (0, 2)))
        for x, least, weightiest in ((0, 0, 0), (1, 0, 0), (2, 0, 0), (3, 3, 3), (4, 3, 3), (5, 3, 3)):
            self.same(least, names.name(x, "least"))
            self.same(weightiest, names.name(x, "weight"))
        names = names_of(3, (1, 5, 2), ((2, 0), (1, 0)))
        self.same([1, 1, 1], [names.name(x, "weight") for x in range(3)])
        names = names_of(3, (0, 0, 0), ((2, 1),))
        self.same([0, 1, 1], [names.name(x, "weight") for x in range(3)])

    def test_first(self):
        names = Names(6, WEIGHTS)
        self.same([0, 1, 2, 3, 4, 5], [names.name(x, "first") for x in range(6)])
        names.join(5, 3)
        self.same([0, 1, 2, 5, 4, 5], [names.name(x, "first") for x in range(6)])
        names.join(1, 4)
        names.join(0, 1)
        self.same([1, 1, 2, 5, 1, 5], [names.name(x, "first") for x in range(6)])
        names.join(2, 0)
        self.same([1, 1, 1, 5, 1, 5], [names.name(x, "first") for x in range(6)])
        names.join(2, 3)
        self.same([5, 5, 5, 5, 5, 5], [names.name(x, "first") for x in range(6)])

    def test_first_counts_idle_joins_and_joins_with_oneself(self):
        names = names_of(4, (0,) * 4, ((3, 3), (2, 1), (1, 3)))
        self.same([0, 3, 3, 3], [names.name(x, "first") for x in range(4)])
        names = names_of(4, (0,) * 4, ((3, 3), (3, 3), (0, 3)))
        self.same([3, 1, 2, 3], [names.name(x, "first") for x in range(4)])

    def test_first_has_x_ahead_of_y(self):
        self.same(2, names_of(3, (0,) * 3, ((2, 1),)).name(1, "first"))
        self.same(1, names_of(3, (0,) * 3, ((1, 2),)).name(2, "first"))
        names = names_of(3, (0,) * 3, ((1, 2), (2, 1)))
        self.same(1, names.name(2, "first"))


class Many(NamesCase):
    def test_many_rows(self):
        rng = random.Random(46)
        for many, row in ROWS:
            weights = tuple([rng.choice([0, 1, 2, 10 ** 9 - 1]) for x in range(many)])
            names = Names(many, weights)
            for number, (x, y) in enumerate(row):
                self.same(helper.is_real(many, row, number), names.join(x, y))
                if number % 20 == 0:
                    self.stands(names, many, weights, row[:number + 1])
            self.stands(names, many, weights, row)

    def test_weights_that_are_alike_and_rising_and_falling(self):
        row = helper.random_joins(random.Random(47), 40, 30)
        for weights in ((0,) * 40, (5,) * 40, tuple(range(40)), tuple(range(40))[::-1]):
            self.stands(names_of(40, weights, row), 40, weights, row)

    def test_names_do_not_share_anything(self):
        one, other = Names(4, (1, 2, 3, 4)), Names(4, (1, 2, 3, 4))
        one.join(2, 1)
        self.stands(other, 4, (1, 2, 3, 4), ())
        self.stands(one, 4, (1, 2, 3, 4), ((2, 1),))

    def test_what_was_told_stays_as_it_was(self):
        names = names_of(4, (1, 2, 3, 4), ((2, 1),))
        lots, sizes = names.lots(), names.sizes()
        names.join(0, 3)
        self.same([(1, 2), (0,), (3,)], lots)
        self.same([(1, 2), (2, 1)], sizes)
        lots.clear()
        sizes[0] = None
        self.stands(names, 4, (1, 2, 3, 4), ((2, 1), (0, 3)))

    def test_the_class_itself_has_its_methods(self):
        for word in ("join", "name", "sizes", "lots"):
            self.assertIn(word, vars(Names))


class Refusals(NamesCase):
    def test_no_many_of_any_kind(self):
        for wrong in helper.wrong_manies():
            self.refused(NoMany, Names, wrong, (0,))
            self.refused(NoMany, Names, wrong, wrong)
            self.refused(NoMany, Names, wrong, None)

    def test_no_weight_of_any_kind(self):
        more = [0, 1, 2, (), (0,), (0, 0), (0, 0, 0, 0), [0, 0, 0], "000", b"000", range(3)]
        for wrong in helper.wrong_numbers(3) + more:
            self.refused(NoWeight, Names, 3, wrong)
        self.refused(NoWeight, Names, 1, ())
        self.refused(NoWeight, Names, 40, (0,) * 39)
        self.refused(NoWeight, Names, 40, (0,) * 41)

    def test_no_weight_at_each_place(self):
        wrong_weights = [-1, -10 ** 9, None, True, False, "0", b"0", (), (0,), [0], {}, len] + helper.deep_things(9)
        for wrong in wrong_weights:
            for at in range(3):
                self.refused(NoWeight, Names, 3, helper.with_place((0, 5, 0), at, wrong))
            self.refused(NoWeight, Names, 1, (wrong,))
            self.refused(NoWeight, Names, 40, (0,) * 39 + (wrong,))

    def test_no_thing_of_any_kind_changes_nothing(self):
        row = ((4, 1), (2, 2))
        for many in (6, 40):
            weights = tuple(range(many))
            names = names_of(many, weights, row)
            for wrong in helper.wrong_numbers(many):
                self.refused(NoThing, names.join, wrong, 3)
                self.refused(NoThing, names.join, 3, wrong)
                self.refused(NoThing, names.join, wrong, wrong)
                for by in BYS:
                    self.refused(NoThing, names.name, wrong, by)
            self.stands(names, many, weights, row)
            # Had a refused join counted, the lot would be named by 3, which it was handed.
            names.join(0, 3)
            self.stands(names, many, weights, row + ((0, 3),))
            self.same(0, names.name(3, "first"))

    def test_no_join_for_another_word_of_any_kind(self):
        names = names_of(6, WEIGHTS, ((4, 1), (2, 2)))
        words = ["Least", "least ", "lea", "weights", "names", "size", "rank", "told", "firs"]
        for wrong in helper.wrong_words(BYS) + words:
            for x in (0, 4):
                self.refused(NoJoin, names.name, x, wrong)
        self.stands(names, 6, WEIGHTS, ((4, 1), (2, 2)))

    def test_their_order(self):
        names = Names(6, WEIGHTS)
        for wrong in helper.wrong_numbers(6):
            self.refused(NoThing, names.name, wrong, wrong)
            self.refused(NoThing, names.name, wrong, "size")
        self.stands(names, 6, WEIGHTS, ())
