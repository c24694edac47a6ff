"""Deeds: promise 7, the depths and marks of 8, and 2 and 3 as far as they go for them."""

import random

from lotheads.deeds import done, run
from lotheads.errors import NoDeed
from lotheads.stores import new_store
from tests import helper
from tests.helper import JOINS, SHORTS, Case

GOOD_ROW = (("join", 0, 1), ("find", 1), ("join", 2, 2), ("join", 1, 0), ("find", 2))


def stores_of(many):
    return [new_store(many, join, short) for join in JOINS for short in SHORTS]


def run_by_model(store, row):
    model = helper.model_of(store)
    told = [model.do(deed) for deed in row]
    return model.store(), [answer for answer, steps in told], [steps for answer, steps in told]


def rows_for_all():
    """Rows of deeds with the number of things, of all lengths from none to sixty."""
    rng = random.Random(7)
    lengths = [0, 1, 2, 3, 5, 60, 60, 60] + [rng.randrange(61) for turn in range(20)]
    manies = [1, 2, 40] + list(range(3, 40, 2))
    rows = [(many, helper.random_row(rng, many, rng.choice(lengths))) for many in manies]
    return rows + [(5, ()), (40, helper.random_row(rng, 40, 60)), (8, helper.random_row(rng, 8, 60))]


ROWS = rows_for_all()


class Joins(Case):
    def test_by_size(self):
        store = ("size", "none", (0, 0, 2, 3), (2, 1, 1, 1))
        self.told((("size", "none", (0, 0, 0, 3), (3, 1, 1, 1)), True, 1), done, store, ("join", 2, 1))
        self.told((("size", "none", (0, 0, 2, 2), (2, 1, 2, 1)), True, 0), done, store, ("join", 2, 3))
        self.told((("size", "none", (0, 0, 3, 3), (2, 1, 1, 2)), True, 0), done, store, ("join", 3, 2))

    def test_by_rank(self):
        store = ("rank", "none", (0, 0, 2, 3), (1, 0, 0, 0))
        self.told((("rank", "none", (0, 0, 0, 3), (1, 0, 0, 0)), True, 1), done, store, ("join", 2, 1))
        self.told((("rank", "none", (0, 0, 2, 2), (1, 0, 1, 0)), True, 0), done, store, ("join", 2, 3))
        self.told((("rank", "none", (0, 0, 3, 3), (1, 0, 0, 1)), True, 0), done, store, ("join", 3, 2))
        more = ("rank", "none", (0, 0, 2, 2), (1, 0, 1, 0))
        self.told((("rank", "none", (2, 0, 2, 2), (1, 0, 2, 0)), True, 2), done, more, ("join", 3, 1))

    def test_by_told(self):
        store = ("told", "none", (0, 0, 2), (0, 0, 0))
        self.told((("told", "none", (2, 0, 2), (0, 0, 0)), True, 1), done, store, ("join", 2, 1))
        self.told((("told", "none", (0, 0, 0), (0, 0, 0)), True, 1), done, store, ("join", 1, 2))

    def test_by_names(self):
        store = ("names", "none", (0, 1, 1), (0, 0, 0))
        behind = ("names", "none", (0, 0, 1), (0, 0, 0))
        self.told((behind, True, 1), done, store, ("join", 0, 2))
        self.told((behind, True, 1), done, store, ("join", 2, 0))

    def test_told_tuples_are_new(self):
        store = new_store(4, "size", "none")
        for behind in (run(store, ())[0], done(store, ("find", 1))[0], done(store, ("join", 2, 2))[0]):
            self.same(store, behind)
            self.assertIsNot(store, behind)
            self.assertIsNot(store[2], behind[2])
            self.assertIsNot(store[3], behind[3])

    def test_things_of_one_lot(self):
        for store in stores_of(3):
            for x in range(3):
                self.told((store, False, 0), done, store, ("join", x, x))
            once = done(store, ("join", 0, 1))[0]
            self.told((once, False, 1), done, once, ("join", 0, 1))
            self.told((once, False, 1), done, once, ("join", 1, 0))

    def test_finds_go_by_the_manner_one_behind_the_other(self):
        chain = (0, 0, 1, 2, 3)
        for short, ups, steps in (
            ("none", chain, 8), ("whole", (0,) * 5, 5), ("halves", (0, 0, 0, 2, 0), 3),
            ("splits", (0, 0, 0, 1, 0), 6), ("one", (0, 0, 1, 2, 1), 7),
        ):
            store = ("told", short, chain, (0,) * 5)
            self.told((("told", short, ups, (0,) * 5), False, steps), done, store, ("join", 4, 4))

    def test_a_join_finds_the_first_thing_first(self):
        for short, deed, ups, steps in (
            ("halves", ("join", 3, 4), (0, 0, 1, 1, 1), 4), ("halves", ("join", 4, 3), (0, 0, 0, 0, 2), 3),
            ("splits", ("join", 3, 4), (0, 0, 0, 0, 1), 6), ("splits", ("join", 4, 3), (0, 0, 0, 0, 2), 6),
        ):
            store = ("told", short, (0, 0, 1, 2, 3), (0,) * 5)
            self.told((("told", short, ups, (0,) * 5), False, steps), done, store, deed)


class Finds(Case):
    def test_a_find_tells_the_head_and_makes_ways_short(self):
        store = ("told", "whole", (0, 0, 1, 2), (0,) * 4)
        self.told((("told", "whole", (0, 0, 0, 0), (0,) * 4), 0, 3), done, store, ("find", 3))
        self.told((store, 0, 0), done, store, ("find", 0))

    def test_marks_stay(self):
        store = ("rank", "whole", (0, 0, 0, 2), (2, 0, 1, 0))
        self.told((("rank", "whole", (0, 0, 0, 0), (2, 0, 1, 0)), 0, 2), done, store, ("find", 3))


class Rows(Case):
    def test_by_hand(self):
        store = new_store(3, "size", "none")
        behind = ("size", "none", (0, 0, 2), (2, 1, 1))
        self.told((behind, [True, 0, False, False, 2], [0, 1, 0, 1, 0]), run, store, GOOD_ROW)

    def test_no_deeds(self):
        for store in stores_of(4):
            self.told((store, [], []), run, store, ())

    def test_all_ways_and_manners(self):
        for many, row in ROWS:
            for store in stores_of(many):
                self.told(run_by_model(store, row), run, store, row)

    def test_rows_behind_rows(self):
        for many, row in ROWS[:8]:
            for store in stores_of(many):
                for turn in range(3):
                    told = run(store, row)
                    self.same(run_by_model(store, row), told)
                    store = told[0]

    def test_a_row_is_its_deeds_one_behind_the_other(self):
        for many, row in ROWS[::3]:
            for store in stores_of(many):
                at = store
                for number, deed in enumerate(row):
                    expected = run_by_model(at, (deed,))
                    self.told((expected[0], expected[1][0], expected[2][0]), done, at, deed)
                    at = done(at, deed)[0]
                self.same(at, run(store, row)[0])

    def test_told_lists_are_the_askers_own(self):
        store = new_store(3, "rank", "whole")
        first = run(store, GOOD_ROW)
        first[1].clear()
        first[2][0] = "gone"
        again = run(store, GOOD_ROW)
        self.same([True, 0, False, False, 2], again[1])
        self.same([0, 1, 0, 1, 0], again[2])


class TheWhole(Case):
    def test_one_head_just_where_joins_lead(self):
        for many, row in ROWS:
            joins = [deed[1:] for deed in row if deed[0] == "join"]
            lots = [helper.reached(many, joins, x) for x in range(many)]
            for store in stores_of(many):
                ups = run(store, row)[0][2]
                heads = [helper.way(ups, x)[-1] for x in range(many)]
                for x in range(many):
                    self.assertEqual(lots[x], tuple([y for y in range(many) if heads[y] == heads[x]]))

    def test_answers_tell_whether_they_were_apart(self):
        for many, row in ROWS[::2]:
            for store in stores_of(many):
                answers = run(store, row)[1]
                for number, deed in enumerate(row):
                    joins = [ahead[1:] for ahead in row[:number] if ahead[0] == "join"]
                    lot = helper.reached(many, joins, deed[1])
                    if deed[0] == "join":
                        self.assertIs(deed[2] not in lot, answers[number])
                    else:
                        self.assertIn(answers[number], lot)

    def test_depths_and_marks_by_size_and_rank(self):
        rows = ROWS + [(2 ** k, helper.even_deeds(2 ** k)) for k in range(6)] + [(40, helper.even_deeds(40))]
        for many, row in rows:
            for short in SHORTS:
                for join in ("size", "rank"):
                    ups, marks = run(new_store(many, join, short), row)[0][2:]
                    for x in range(many):
                        way = helper.way(ups, x)
                        lot = helper.size(ups, way[-1])
                        self.assertLessEqual(len(way) - 1, helper.doubled(lot))
                        if ups[x] == x:
                            limit = helper.doubled(lot) if join == "rank" else lot
                            self.assertLessEqual(marks[x], limit)

    def test_trees_joined_evenly_are_as_deep_as_can_be(self):
        for k in range(6):
            for join in ("size", "rank"):
                store = run(new_store(2 ** k, join, "none"), helper.even_deeds(2 ** k))[0]
                self.assertEqual(k, helper.height(store[2]))
                self.assertEqual(k if join == "rank" else 2 ** k, max(store[3]))


class Refusals(Case):
    def test_no_deed_of_any_kind(self):
        for many in (1, 3, 40):
            for wrong in helper.wrong_deeds(many):
                for store in stores_of(many)[::6]:
                    self.refused_at(0, NoDeed, done, store, wrong)

    def test_no_row_of_any_kind(self):
        for store in stores_of(3):
            for wrong in helper.wrong_rows():
                self.refused_at(None, NoDeed, run, store, wrong)
            self.refused_at(None, NoDeed, run, store, list(GOOD_ROW))

    def test_no_deed_at_each_place_of_a_row(self):
        store = new_store(3, "size", "whole")
        for wrong in helper.wrong_deeds(3):
            for number in range(len(GOOD_ROW)):
                self.refused_at(number, NoDeed, run, store, helper.with_place(GOOD_ROW, number, wrong))
            self.refused_at(5, NoDeed, run, store, GOOD_ROW + (wrong,))

    def test_the_first_of_several_is_told(self):
        store = new_store(3, "names", "splits")
        for first in range(len(GOOD_ROW)):
            for second in range(first + 1, len(GOOD_ROW)):
                for wrong in (None, ("find", 3), ["find", 0], ("join", 0, True), ()):
                    row = helper.with_place(helper.with_place(GOOD_ROW, second, wrong), first, ("find", -1))
                    self.refused_at(first, NoDeed, run, store, row)

    def test_the_last_of_sixty(self):
        store = new_store(40, "rank", "halves")
        row = (("join", 0, 1),) * 59
        self.refused_at(59, NoDeed, run, store, row + (("join", 0, 40),))
        self.refused_at(0, NoDeed, run, store, (("find", 40),) + row)

    def test_a_lone_deed_is_no_row_and_a_row_no_deed(self):
        store = new_store(3, "told", "one")
        self.refused_at(0, NoDeed, run, store, ("find", 0))
        self.refused_at(0, NoDeed, done, store, (("find", 0),))
        self.refused_at(0, NoDeed, done, store, ())

    def test_what_is_refused_changes_nothing(self):
        store = new_store(3, "size", "whole")
        self.refused_at(1, NoDeed, run, store, (("join", 0, 1), ("join", 1, 3)))
        self.same(("size", "whole", (0, 1, 2), (1, 1, 1)), store)
        self.same(run_by_model(store, GOOD_ROW), run(store, GOOD_ROW))
