"""Growths: promise 12, and 2 and 3 as far as they go for them."""

import random

from lotheads.deeds import run
from lotheads.errors import NoDeed, NoWorth
from lotheads.growths import few, rank_paid, rank_worth
from lotheads.stores import new_store
from tests import helper
from tests.helper import JOINS, SHORTS, Case

# (LEVEL, TIMES) by a thing's mark and its up's mark: growths of 1 are 2, 3, 7, of 2 they are 3, 5, 23, of 3 4, 7.
LEVELS = {
    (1, 2): (0, 1), (1, 3): (1, 1), (1, 4): (1, 1), (1, 5): (1, 1),
    (2, 3): (0, 1), (2, 4): (0, 2), (2, 5): (1, 1),
    (3, 4): (0, 1), (3, 5): (0, 2), (4, 5): (0, 1),
}


def few_of(many):
    return len([limit for limit in (2, 3, 7, 2047) if many > limit])


def worth(store):
    ups, marks = store[2], store[3]
    told = 0
    for x in range(len(ups)):
        told += few_of(len(ups)) * marks[x]
        if ups[x] != x and marks[x] > 0:
            level, times = LEVELS[marks[x], marks[ups[x]]]
            told -= level * marks[x] + times
    return told


class Few(Case):
    def test_each_edge(self):
        for number, expected in (
            (1, 0), (2, 0), (3, 1), (4, 2), (5, 2), (6, 2), (7, 2), (8, 3), (9, 3), (40, 3), (2046, 3), (2047, 3),
            (2048, 4), (2049, 4), (10 ** 6, 4), (999999999, 4),
        ):
            self.told(expected, few, number)


class Worths(Case):
    def test_by_hand(self):
        self.told(0, rank_worth, new_store(40, "rank", "whole"))
        self.told(0, rank_worth, ("rank", "whole", (0, 0), (1, 0)))
        self.told(1, rank_worth, ("rank", "whole", (0, 0, 2), (1, 0, 0)))
        self.told(2 * 2 + 2 - 1, rank_worth, ("rank", "whole", (0, 0, 0, 2), (2, 0, 1, 0)))
        self.told(2 * 2 + 2 - 1, rank_worth, ("rank", "whole", (0, 0, 0, 0), (2, 0, 1, 0)))

    def test_each_two_marks_that_can_be(self):
        for mark, above in LEVELS:
            # Of things joined evenly the one with the number 2 ** mark has this mark and is under the head.
            store = run(new_store(40, "rank", "whole"), helper.even_deeds(2 ** above))[0]
            self.assertEqual((0, mark, above), (store[2][2 ** mark], store[3][2 ** mark], store[3][0]))
            self.told(worth(store), rank_worth, store)

    def test_the_levels_by_the_words(self):
        for (mark, above), told in LEVELS.items():
            level = max([k for k in range(4) if growth(k, mark) <= above])
            times = 0
            at = growth(level, mark)
            while at <= above:
                times += 1
                at = growth(level, at)
            self.assertEqual(told, (level, times))


def growth(level, start):
    """Of levels from 0 to 3, the last one as the least it can be: it is beyond all marks."""
    if level == 0:
        return start + 1
    if level == 1:
        return 2 * start + 1
    if level == 2:
        return 2 ** (start + 1) * (start + 1) - 1
    return 2047


class Paid(Case):
    def check(self, store, deed):
        """The store behind the deed, what is told being held against the words."""
        model = helper.model_of(store)
        answer, steps = model.do(deed)
        many = few_of(len(store[2]))
        most = many + 1
        if deed[0] == "join":
            most = 2 * many + 2 + (many if answer is True else 0)
        told = (steps, most, worth(store), worth(model.store()))
        self.told(told, rank_paid, store, deed)
        self.assertLessEqual(told[0] + told[3], told[1] + told[2])
        self.told(told[2], rank_worth, store)
        return model.store()

    def check_row(self, store, row):
        told = []
        at = store
        for deed in row:
            told.append(rank_paid(at, deed))
            at = self.check(at, deed)
        steps = sum([part[0] for part in told])
        paying = sum([part[1] for part in told])
        self.assertLessEqual(steps, paying + worth(store) - worth(at))
        return at

    def test_by_hand(self):
        new = new_store(4, "rank", "whole")
        self.told((0, 2 * 2 + 2 + 2, 0, 2), rank_paid, new, ("join", 0, 1))
        self.told((0, 2 * 2 + 2, 0, 0), rank_paid, new, ("join", 3, 3))
        self.told((0, 2 + 1, 0, 0), rank_paid, new, ("find", 2))
        store = ("rank", "whole", (0, 0, 0, 2), (2, 0, 1, 0))
        self.told((2, 3, 5, 5), rank_paid, store, ("find", 3))
        self.told((3, 6, 5, 5), rank_paid, store, ("join", 3, 1))
        self.told((0, 1, 0, 0), rank_paid, new_store(1, "rank", "whole"), ("find", 0))

    def test_all_numbers_of_things(self):
        rng = random.Random(15)
        for many in range(1, 41):
            row = helper.random_row(rng, many, rng.choice([5, 30, 60]))
            self.check_row(new_store(many, "rank", "whole"), row)

    def test_trees_joined_evenly_with_finds_behind(self):
        rng = random.Random(16)
        for many in (4, 8, 16, 32, 40):
            for turn in range(6):
                joined = self.check_row(new_store(many, "rank", "whole"), helper.even_deeds(many))
                finds = tuple([("find", x) for x in rng.sample(range(many), many)])
                self.check_row(joined, finds)


class Refusals(Case):
    def test_other_stores_have_no_worth(self):
        for join in JOINS:
            for short in SHORTS:
                if (join, short) != ("rank", "whole"):
                    store = new_store(3, join, short)
                    self.refused(NoWorth, rank_worth, store)
                    self.refused(NoWorth, rank_paid, store, ("find", 0))
                    self.refused(NoWorth, rank_paid, store, ("join", 0, 1))

    def test_no_deed_of_any_kind(self):
        for many in (1, 3, 40):
            for wrong in helper.wrong_deeds(many):
                self.refused_at(0, NoDeed, rank_paid, new_store(many, "rank", "whole"), wrong)

    def test_no_worth_goes_ahead_of_no_deed(self):
        for wrong in helper.wrong_deeds(3):
            self.refused(NoWorth, rank_paid, new_store(3, "rank", "halves"), wrong)
            self.refused(NoWorth, rank_paid, new_store(3, "size", "whole"), wrong)
