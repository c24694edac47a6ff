"""Promise 3: the lots of one row of joins are the same by whatever they are told."""

import random

from lotheads.boards import pieces_of
from lotheads.deeds import run
from lotheads.forests import head_of, lots_of
from lotheads.lattice import chain, is_finer, together
from lotheads.moments import first_moment, lots_at, times_of
from lotheads.names import Names
from lotheads.pairs import first_clash
from lotheads.piles import Pile
from lotheads.stores import new_store
from lotheads.strikes import least_strikes
from lotheads.tellings import difference, heights
from lotheads.webs import least_forest, narrowest, pieces
from lotheads.without import without
from tests import helper
from tests.helper import Case

ROWS = helper.rows_of_joins(65)


def lots_with(many, x, y):
    """The lots of single things but for these two in one."""
    pair = tuple(sorted({x, y}))
    return sorted([pair] + [(z,) for z in range(many) if z not in pair])


class Lots(Case):
    def test_by_all_ways_of_joining_and_manners(self):
        for many, row in ROWS:
            lots = helper.lots_by_joins(many, row)
            deeds = tuple([("join", x, y) for x, y in row])
            for join in helper.JOINS:
                for short in helper.SHORTS:
                    store, answers, steps = run(new_store(many, join, short), deeds)
                    self.same(lots, lots_of(store[2]))

    def test_by_moments_piles_names_and_webs(self):
        rng = random.Random(66)
        for many, row in ROWS:
            lots = helper.lots_by_joins(many, row)
            ties = tuple([(x, y, rng.randrange(9)) for x, y in row])
            self.same(lots, lots_at(many, row, len(row)))
            self.same(lots, lots_of(times_of(many, row)[0]))
            self.same(lots, helper.joined(Pile(many), row).lots())
            self.same(lots, sorted(helper.joined(Names(many, (0,) * many), row).lots()))
            self.same(lots, pieces(many, ties))
            chosen = tuple([row[number] for number in least_forest(many, ties)[1]])
            self.same(lots, lots_at(many, chosen, many - len(lots)))

    def test_by_tellings(self):
        for many, row in ROWS:
            tellings = tuple([(x, y, 0) for x, y in row])
            self.same(("fits", (0,) * many), heights(many, 0, tellings))
            for x in sorted({0, many // 2, many - 1}):
                told = [y for y in range(many) if difference(many, 0, tellings, x, y) == 0]
                self.same(helper.reached(many, row, x), tuple(told))

    def test_by_lots_together(self):
        for many, row in ROWS:
            lots = [(x,) for x in range(many)]
            for x, y in row:
                wider = together(many, lots, lots_with(many, x, y))
                self.same(True, is_finer(many, lots, wider))
                lots = wider
            self.same(helper.lots_by_joins(many, row), lots)

    def test_real_joins_are_told_alike(self):
        for many, row in ROWS:
            deeds = tuple([("join", x, y) for x, y in row])
            answers = run(new_store(many, "rank", "halves"), deeds)[1]
            pile, names = Pile(many), Names(many, (1,) * many)
            self.same(answers, [pile.join(x, y) for x, y in row])
            self.same(answers, [names.join(x, y) for x, y in row])

    def test_by_rows_without_a_join_and_piles(self):
        for many, row in ROWS:
            for number in range(0, len(row), 7):
                pile = helper.joined(Pile(many), row)
                pile.back_to(number)
                for x, y in row[number + 1:]:
                    pile.join(x, y)
                self.same(pile.ups(), without(many, row, number)[0])

    def test_whether_two_things_are_in_one_lot(self):
        rng = random.Random(67)
        for many, row in ROWS:
            ups = times_of(many, row)[0]
            ties = tuple([(x, y, 1) for x, y in row])
            pairs = [(x, y) for x in range(many) for y in range(many) if x != y]
            for x, y in rng.sample(pairs, min(len(pairs), 20)):
                one = head_of(ups, x) == head_of(ups, y)
                self.same(y in helper.reached(many, row, x), one)
                self.same(one, first_moment(many, row, x, y)[0] == "one")
                self.same(one, first_clash(many, row, ((x, y),)) != ("none",))
                self.same(one, len(least_strikes(many, row, x, y)[0]) > 0)
                self.same(one, narrowest(many, ties, x, y) is not None)
                self.same(one, chain(many, lots_of(ups), [(z,) for z in range(many)], x, y) is not None)

    def test_boards_are_lots_of_neighbours(self):
        rng = random.Random(68)
        for high, wide in ((1, 40), (40, 1), (5, 8), (6, 6), (1, 1)):
            board = tuple(["".join([rng.choice("ab") for column in range(wide)]) for row in range(high)])
            letters = "".join(board)
            spots = range(len(letters))
            ties = [(at, at + 1, 0) for at in spots if at % wide < wide - 1 and letters[at] == letters[at + 1]]
            ties += [(at, at + wide, 0) for at in spots if at + wide in spots and letters[at] == letters[at + wide]]
            self.same(pieces(len(letters), tuple(ties)), [spots for letter, spots in pieces_of(board)])
