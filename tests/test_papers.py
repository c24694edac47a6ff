"""The house's papers: promise 29, and 1, 2, 3 and all on which they rest as far as they go for them."""

import random

from lotheads import papers
from lotheads.checker import holds
from lotheads.errors import (
    NoBoard, NoDeed, NoFit, NoForest, NoJoin, NoLots, NoMany, NoPair, NoRest, NoShort, NoThing)
from lotheads.lattice import chain, together
from lotheads.moments import first_moment, lots_at
from lotheads.papers import (
    paper_differ, paper_first, paper_forest, paper_lots, paper_seeps, paper_shape, paper_steps, paper_strikes,
    paper_tellings, paper_two)
from lotheads.seeping import seeps
from lotheads.shapes import can_come
from lotheads.strikes import least_strikes
from lotheads.tellings import difference, heights
from lotheads.webs import least_forest
from tests import helper
from tests.helper import JOINS, SHORTS, SIDES, Case

ROW = ((0, 1), (2, 3), (1, 0), (4, 4), (3, 1), (2, 0))
DEEDS = (("join", 0, 1), ("find", 1), ("join", 2, 2), ("join", 1, 0), ("find", 2))
TELLINGS = ((0, 1, 5), (2, 3, -4), (1, 0, -5), (4, 4, 0), (3, 1, 2), (2, 0, -7))
TIES = ((0, 1, 4), (2, 3, 1), (1, 0, 2), (4, 4, 0), (3, 1, 4), (2, 0, 4), (0, 3, 5))
ONE = [(0, 1), (2,), (3, 5), (4,)]
OTHER = [(0,), (1, 2), (3,), (4,), (5,)]
ROWS = helper.rows_of_joins(91)


def some_pairs(rng, many, count):
    pairs = [(x, y) for x in range(many) for y in range(many)]
    return rng.sample(pairs, min(len(pairs), count)) + [(0, many - 1), (many - 1, many - 1)]


class PapersCase(Case):
    def taken(self, function, *arguments):
        """The claim and the paper, which must be told anew, all of tuples, and taken."""
        told = function(*arguments)
        self.told(told, function, *arguments)
        self.assertEqual([tuple, 2], [type(told), len(told)])
        claim, paper = told
        self.assertTrue(self.all_tuples(told), told)
        self.assertTrue(helper.holds_by_words(claim, paper), told)
        self.told(True, holds, claim, paper)
        return claim, paper

    def all_tuples(self, told):
        if type(told) is tuple:
            return all([self.all_tuples(part) for part in told])
        return told is None or type(told) in (int, str)


class OfRows(PapersCase):
    def test_by_hand(self):
        self.told((("one", 6, ROW, 0, 2), (0, 4, 1)), paper_two, 6, ROW, 0, 2)
        self.told((("one", 6, ROW, 5, 5), ()), paper_two, 6, ROW, 5, 5)
        self.told((("one", 6, ROW, 4, 4), ()), paper_two, 6, ROW, 4, 4)
        self.told((("apart", 6, ROW, 0, 4), (0, 1, 2, 3)), paper_two, 6, ROW, 0, 4)
        self.told((("apart", 2, (), 1, 0), (1,)), paper_two, 2, (), 1, 0)
        self.told((("first", 6, ROW, 0, 3, 5), ((0, 4), (0, 1))), paper_first, 6, ROW, 0, 3)
        self.told((("first", 6, ROW, 1, 0, 1), ((0,), (1,))), paper_first, 6, ROW, 1, 0)
        self.told((("strikes", 2, ((0, 1),), 0, 1, 1), ((0,), ((0,),))), paper_strikes, 2, ((0, 1),), 0, 1)
        self.told((("strikes", 6, ROW, 4, 1, 0), ((), ())), paper_strikes, 6, ROW, 4, 1)

    def test_of_two(self):
        rng = random.Random(92)
        words = []
        for many, row in ROWS:
            for x, y in some_pairs(rng, many, 12):
                claim, paper = self.taken(paper_two, many, row, x, y)
                word = "one" if y in helper.reached(many, row, x) else "apart"
                self.same((word, many, row, x, y), claim)
                self.same(first_moment(many, row, x, y)[0], word)
                words.append(word)
        self.assertGreater(words.count("one"), 50)
        self.assertGreater(words.count("apart"), 50)

    def test_of_first(self):
        rng = random.Random(93)
        for many, row in ROWS:
            for x, y in some_pairs(rng, many, 12):
                if x == y or y not in helper.reached(many, row, x):
                    self.refused(NoPair, paper_first, many, row, x, y)
                    continue
                claim, paper = self.taken(paper_first, many, row, x, y)
                moments = [at for at in range(len(row) + 1) if y in helper.reached(many, row[:at], x)]
                self.same(("first", many, row, x, y, moments[0]), claim)
                ahead = lots_at(many, row, moments[0] - 1)
                self.assertEqual([], [lot for lot in ahead if x in lot and y in lot])

    def test_of_strikes(self):
        rng = random.Random(94)
        for many, row in ROWS:
            for x, y in some_pairs(rng, many, 8):
                if x == y:
                    self.refused(NoPair, paper_strikes, many, row, x, y)
                    continue
                claim, paper = self.taken(paper_strikes, many, row, x, y)
                self.same(("strikes", many, row, x, y, len(least_strikes(many, row, x, y)[0])), claim)

    def test_of_steps(self):
        rng = random.Random(95)
        for join in JOINS:
            for short in SHORTS:
                for many, length in ((1, 0), (1, 60), (2, 7), (7, 60), (40, 60), (40, 0)):
                    row = helper.random_row(rng, many, length)
                    claim, paper = self.taken(paper_steps, many, join, short, row)
                    model = helper.Model(many, join, short)
                    total = sum([model.do(deed)[1] for deed in row])
                    self.same((("steps", many, join, short, row, total), None), (claim, paper))

    def test_what_was_handed_in_is_told_anew(self):
        row = ((0, 1), (1, 0))
        for function in (paper_two, paper_first, paper_strikes):
            claim = function(2, row, 0, 1)[0]
            self.same(row, claim[2])
            self.assertIsNot(row, claim[2])
            self.assertIsNot(row[0], claim[2][0])


class OfShapes(PapersCase):
    def test_by_hand(self):
        self.told((("never", "size", (0, 0, 1)), 0), paper_shape, "size", (0, 0, 1))
        self.told((("comes", "told", (0,)), ()), paper_shape, "told", (0,))
        self.told((("comes", "names", (0, 0)), ((0, 1),)), paper_shape, "names", (0, 0))
        self.told((("never", "names", (1, 1)), 1), paper_shape, "names", (1, 1))

    def test_of_many_forests(self):
        words = []
        for ups in helper.many_forests(96, 40):
            for join in JOINS:
                claim, paper = self.taken(paper_shape, join, ups)
                self.same((can_come(join, ups)[0], join, ups), claim)
                words.append(claim[0])
        self.assertGreater(words.count("comes"), 100)
        self.assertGreater(words.count("never"), 100)

    def test_of_forests_that_came(self):
        rng = random.Random(97)
        for turn in range(60):
            many = rng.randrange(1, 41)
            for join in JOINS:
                row = helper.random_joins(rng, many, rng.randrange(60))
                ups = helper.model_by(many, row, join).ups
                # The row itself is a paper, too, with its idle joins.
                self.same(True, holds(("comes", join, ups), row))
                self.same("comes", self.taken(paper_shape, join, ups)[0][0])


class OfTellings(PapersCase):
    def rows(self):
        rng = random.Random(98)
        every = [(6, rest, TELLINGS) for rest in (0, 2, 7, 1000)] + [(1, 0, ()), (40, 2, ()), (2, 7, ((1, 1, 3),))]
        for turn in range(120):
            many, rest = rng.choice([1, 2, 3, 6, 12, 40]), rng.choice([0, 0, 2, 3, 999, 1000])
            hidden = [rng.randrange(-10 ** 9, 10 ** 9) for x in range(many)]
            row = [(x, y, hidden[y] - hidden[x] + rest * rng.randrange(-2, 3))
                   for x, y in helper.random_joins(rng, many, rng.choice([0, 3, 12, 60]))]
            if row and rng.random() < 0.5:
                number = rng.randrange(len(row))
                x, y, more = row[number]
                row[number] = (x, y, more + rng.choice([-1, 1]))
            every.append((many, rest, tuple(row)))
        return every

    def test_by_hand(self):
        self.told((("fit", 6, 0, TELLINGS), (0, 5, 7, 3, 0, 0)), paper_tellings, 6, 0, TELLINGS)
        clash = ((0, 1, 5), (1, 0, 5))
        self.told((("clash", 2, 7, clash), ((0, -1), (1, -1))), paper_tellings, 2, 7, clash)
        self.told((("clash", 1, 0, ((0, 0, 2),)), ((0, -1),)), paper_tellings, 1, 0, ((0, 0, 2),))
        self.told((("fit", 1, 2, ()), (0,)), paper_tellings, 1, 2, ())
        self.told((("differ", 6, 0, TELLINGS, 0, 1, 5), ((0, 1),)), paper_differ, 6, 0, TELLINGS, 0, 1)
        self.told((("differ", 6, 0, TELLINGS, 2, 1, -2), ((1, 1), (4, 1))), paper_differ, 6, 0, TELLINGS, 2, 1)
        self.told((("differ", 6, 7, TELLINGS, 2, 1, 5), ((1, 1), (4, 1))), paper_differ, 6, 7, TELLINGS, 2, 1)
        self.told((("differ", 6, 2, TELLINGS, 5, 5, 0), ()), paper_differ, 6, 2, TELLINGS, 5, 5)

    def test_fit_or_clash(self):
        words = []
        for many, rest, tellings in self.rows():
            claim, paper = self.taken(paper_tellings, many, rest, tellings)
            word = {"fits": "fit", "clash": "clash"}[heights(many, rest, tellings)[0]]
            self.same((word, many, rest, tellings), claim)
            words.append(word)
        self.assertGreater(words.count("fit"), 20)
        self.assertGreater(words.count("clash"), 20)

    def test_differ(self):
        rng = random.Random(99)
        for many, rest, tellings in self.rows():
            fits = heights(many, rest, tellings)[0] == "fits"
            for x, y in some_pairs(rng, many, 6):
                if not fits:
                    self.refused(NoFit, paper_differ, many, rest, tellings, x, y)
                elif y not in helper.reached(many, [telling[:2] for telling in tellings], x):
                    self.refused(NoPair, paper_differ, many, rest, tellings, x, y)
                else:
                    claim, paper = self.taken(paper_differ, many, rest, tellings, x, y)
                    more = difference(many, rest, tellings, x, y)
                    self.same(("differ", many, rest, tellings, x, y, more), claim)


class OfLots(PapersCase):
    def test_by_hand(self):
        one, other = tuple(ONE), tuple(OTHER)
        for first in (ONE, one):
            for second in (OTHER, other):
                self.told((("together", 6, one, other, 0, 2), (0, 1, 2)), paper_lots, 6, first, second, 0, 2)
                self.told((("together", 6, one, other, 4, 4), (4,)), paper_lots, 6, first, second, 4, 4)
                self.told((("not together", 6, one, other, 1, 3), (0, 1, 2)), paper_lots, 6, first, second, 1, 3)
        self.told((("together", 1, ((0,),), ((0,),), 0, 0), (0,)), paper_lots, 1, [(0,)], [(0,)], 0, 0)

    def test_of_many_lots(self):
        rng = random.Random(100)
        words = []
        for many in (1, 2, 3, 6, 20, 40):
            for turn in range(10):
                one, other = helper.random_lots(rng, many), helper.random_lots(rng, many)
                for x, y in some_pairs(rng, many, 6):
                    claim, paper = self.taken(paper_lots, many, one, tuple(other), x, y)
                    lots = [lot for lot in together(many, one, other) if x in lot and y in lot]
                    word = "together" if lots else "not together"
                    self.same((word, many, tuple(one), tuple(other), x, y), claim)
                    self.assertEqual(chain(many, one, other, x, y) is not None, word == "together")
                    words.append(word)
        self.assertGreater(words.count("together"), 50)
        self.assertGreater(words.count("not together"), 50)

    def test_a_claim_stays_where_the_lots_handed_in_are_changed(self):
        one, other = [(0, 1), (2,)], [(0,), (1, 2)]
        claim, paper = paper_lots(3, one, other, 0, 2)
        one.clear()
        other[0] = None
        self.same(("together", 3, ((0, 1), (2,)), ((0,), (1, 2)), 0, 2), claim)
        self.same(True, holds(claim, paper))


class OfWebs(PapersCase):
    def test_by_hand(self):
        self.told((("forest", 6, TIES, 7), (1, 2, 4)), paper_forest, 6, TIES)
        self.told((("forest", 1, (), 0), ()), paper_forest, 1, ())
        self.told((("forest", 40, (), 0), ()), paper_forest, 40, ())
        self.told((("forest", 2, ((0, 0, 5), (1, 1, 5)), 0), ()), paper_forest, 2, ((0, 0, 5), (1, 1, 5)))

    def test_of_many_webs(self):
        rng = random.Random(101)
        for many, row in ROWS:
            for weights in ([0], [0, 1], list(range(9)), [10 ** 9 - 1, 1, 0]):
                ties = tuple([(x, y, rng.choice(weights)) for x, y in row])
                claim, paper = self.taken(paper_forest, many, ties)
                self.same(("forest", many, ties, least_forest(many, ties)[0]), claim)


class OfBoards(PapersCase):
    def test_by_hand(self):
        self.told((("shut", 1, 1, ()), (0,)), paper_seeps, 1, 1, ())
        self.told((("through", 1, 1, (0, 0), 1), ((0,), (0,))), paper_seeps, 1, 1, (0, 0))
        self.told((("shut", 2, 2, (0, 3)), (2, 1)), paper_seeps, 2, 2, (0, 3))

    def test_of_all_sides(self):
        rng = random.Random(102)
        for high, wide in SIDES:
            spots = list(range(high * wide))
            rows = [(), tuple(spots), tuple(rng.sample(spots, len(spots) // 2)), tuple(rng.choices(spots, k=60))]
            for row in rows:
                claim, paper = self.taken(paper_seeps, high, wide, row)
                told = seeps(high, wide, row)
                parts = (told[0], high, wide, row)
                self.same(parts if told[0] == "shut" else (*parts, told[1]), claim)
                # Behind the last spot that matters a road is open; one ahead of it a wall stands.
                self.assertEqual(helper.seeps_by_places(high, wide, row), told[0] == "through")


class Refusals(Case):
    def of_rows(self, many, row, x, y):
        return [(function, (many, row, x, y)) for function in (paper_two, paper_first, paper_strikes)]

    def test_no_many_of_any_kind(self):
        for wrong in helper.wrong_manies():
            for function, arguments in self.of_rows(wrong, ROW, 0, 1):
                self.refused(NoMany, function, *arguments)
            self.refused(NoMany, paper_steps, wrong, "size", "none", DEEDS)
            self.refused(NoMany, paper_tellings, wrong, 0, TELLINGS)
            self.refused(NoMany, paper_differ, wrong, 0, TELLINGS, 0, 1)
            self.refused(NoMany, paper_lots, wrong, ONE, OTHER, 0, 1)
            self.refused(NoMany, paper_forest, wrong, TIES)

    def test_no_rows_of_any_kind(self):
        for wrong in helper.wrong_rows():
            for function, arguments in self.of_rows(6, wrong, 0, 1):
                self.refused_at(None, NoDeed, function, *arguments)
            self.refused_at(None, NoDeed, paper_steps, 6, "size", "none", wrong)
            self.refused_at(None, NoDeed, paper_tellings, 6, 0, wrong)
            self.refused_at(None, NoDeed, paper_differ, 6, 0, wrong, 0, 1)
            self.refused_at(None, NoDeed, paper_forest, 6, wrong)
            self.refused_at(None, NoDeed, paper_seeps, 2, 3, wrong)

    def test_what_is_wrong_at_each_place_of_a_row(self):
        for number in range(5):
            for wrong in helper.wrong_joins(6):
                for function, arguments in self.of_rows(6, helper.with_place(ROW, number, wrong) + (None,), 0, 1):
                    self.refused_at(number, NoDeed, function, *arguments)
            for wrong in helper.wrong_deeds(6):
                row = helper.with_place(DEEDS, number, wrong) + (None,)
                self.refused_at(number, NoDeed, paper_steps, 6, "told", "one", row)
            for wrong in helper.wrong_triples(6):
                tellings = helper.with_place(TELLINGS, number, wrong) + (None,)
                self.refused_at(number, NoDeed, paper_tellings, 6, 2, tellings)
                self.refused_at(number, NoDeed, paper_differ, 6, 2, tellings, 0, 1)
            for wrong in helper.wrong_ties(6):
                self.refused_at(number, NoDeed, paper_forest, 6, helper.with_place(TIES, number, wrong) + (None,))
            for wrong in helper.wrong_numbers(6):
                row = helper.with_place((0, 1, 5, 3, 3), number, wrong) + (None,)
                self.refused_at(number, NoDeed, paper_seeps, 2, 3, row)

    def test_no_things_of_any_kind(self):
        for many in (6, 40):
            for wrong in helper.wrong_numbers(many):
                for x, y in ((wrong, 0), (0, wrong), (wrong, wrong)):
                    for function, arguments in self.of_rows(many, ROW, x, y):
                        self.refused(NoThing, function, *arguments)
                    self.refused(NoThing, paper_differ, many, 0, TELLINGS, x, y)
        for wrong in helper.wrong_numbers(6):
            for x, y in ((wrong, 0), (0, wrong), (wrong, wrong)):
                self.refused(NoThing, paper_lots, 6, ONE, OTHER, x, y)

    def test_no_pairs(self):
        for x in range(6):
            self.refused(NoPair, paper_first, 6, ROW, x, x)
            self.refused(NoPair, paper_strikes, 6, ROW, x, x)
        for x, y in ((0, 4), (4, 5), (5, 3)):
            self.refused(NoPair, paper_first, 6, ROW, x, y)
            self.refused(NoPair, paper_differ, 6, 0, TELLINGS, x, y)
        self.refused(NoPair, paper_first, 1, (), 0, 0)
        self.refused(NoPair, paper_first, 2, (), 0, 1)

    def test_words_of_any_kind(self):
        for wrong in helper.wrong_words(JOINS):
            self.refused(NoJoin, paper_shape, wrong, (0, 0))
            self.refused(NoJoin, paper_shape, wrong, (1, 0))
            self.refused(NoJoin, paper_steps, 6, wrong, wrong, DEEDS)
            self.refused(NoJoin, paper_steps, 6, wrong, "none", None)
        for wrong in helper.wrong_words(SHORTS):
            self.refused(NoShort, paper_steps, 6, "size", wrong, DEEDS)
            self.refused(NoShort, paper_steps, 6, "size", wrong, None)

    def test_no_forests_rests_lots_and_boards_of_any_kind(self):
        for wrong in helper.wrong_forests():
            self.refused(NoForest, paper_shape, "size", wrong)
        for wrong in helper.wrong_things() + [1, 1001, -2, "0"]:
            self.refused(NoRest, paper_tellings, 6, wrong, TELLINGS)
            self.refused(NoRest, paper_tellings, 6, wrong, None)
            self.refused(NoRest, paper_differ, 6, wrong, None, -1, -1)
        for wrong in helper.wrong_lots(6):
            self.refused(NoLots, paper_lots, 6, wrong, OTHER, 0, 1)
            self.refused(NoLots, paper_lots, 6, ONE, wrong, 0, 1)
            self.refused(NoLots, paper_lots, 6, wrong, wrong, -1, None)
        for wrong in helper.wrong_things() + [0, 41]:
            self.refused(NoBoard, paper_seeps, wrong, 1, (0,))
            self.refused(NoBoard, paper_seeps, 1, wrong, None)
        self.refused(NoBoard, paper_seeps, 7, 6, ())

    def test_their_order(self):
        clash = TELLINGS + ((0, 2, 8),)
        for wrong in helper.wrong_things():
            for function, arguments in self.of_rows(wrong, wrong, wrong, wrong):
                self.refused(NoMany, function, *arguments)
            for function, arguments in self.of_rows(6, ROW + ((0, 6),), wrong, wrong):
                self.refused_at(6, NoDeed, function, *arguments)
            self.refused(NoMany, paper_steps, wrong, wrong, wrong, wrong)
            self.refused(NoMany, paper_differ, wrong, wrong, wrong, wrong, wrong)
            self.refused(NoMany, paper_lots, wrong, wrong, wrong, wrong, wrong)
            self.refused(NoMany, paper_forest, wrong, wrong)
            self.refused(NoBoard, paper_seeps, wrong, wrong, wrong)
        for wrong in helper.wrong_numbers(6):
            self.refused(NoThing, paper_differ, 6, 0, clash, wrong, 0)
            self.refused(NoThing, paper_differ, 6, 0, clash, 0, wrong)
        # Clashing tellings come ahead of unlike lots.
        self.refused(NoFit, paper_differ, 6, 0, clash, 0, 4)
        self.refused(NoFit, paper_differ, 6, 0, clash, 4, 5)

    def test_all_papers_of_the_interface_are_here(self):
        names = "two first strikes shape steps tellings differ lots forest seeps".split()
        for name in names:
            self.assertTrue(callable(getattr(papers, f"paper_{name}")))
