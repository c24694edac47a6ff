"""Promises 1 and 3: what the modules tell of one row is held beside each other and beside the papers."""

import random

from lotheads.boards import pieces_of
from lotheads.checker import holds
from lotheads.deeds import done, run
from lotheads.desk import Desk
from lotheads.forests import depth_of, head_of, lot_of, lots_of
from lotheads.growths import rank_paid
from lotheads.lattice import both, chain, is_finer, is_lots, together
from lotheads.moments import first_moment, head_at, lots_at, times_of
from lotheads.names import Names
from lotheads.pairs import first_clash
from lotheads.papers import (
    paper_differ, paper_first, paper_forest, paper_lots, paper_seeps, paper_shape, paper_steps, paper_strikes,
    paper_tellings, paper_two)
from lotheads.piles import Pile
from lotheads.rowtexts import read_row, show_row
from lotheads.shapes import highest
from lotheads.stores import new_store
from lotheads.strikes import least_strikes
from lotheads.tellings import difference, heights
from lotheads.webs import least_forest, narrowest, pieces
from lotheads.without import without
from lotheads.worths import paid
from tests import helper
from tests.helper import Case

ROWS = helper.rows_of_joins(65)


def lots_with(many, x, y):
    """The lots of single things but for these two in one."""
    pair = tuple(sorted({x, y}))
    return sorted([pair] + [(z,) for z in range(many) if z not in pair])


class Lots(Case):
    def test_by_all_ways_of_joining_and_manners(self):
        for many, row in ROWS:
            lots = helper.lots_by_joins(many, row)
            deeds = tuple([("join", x, y) for x, y in row])
            for join in helper.JOINS:
                for short in helper.SHORTS:
                    store, answers, steps = run(new_store(many, join, short), deeds)
                    self.same(lots, lots_of(store[2]))

    def test_by_moments_piles_names_and_webs(self):
        rng = random.Random(66)
        for many, row in ROWS:
            lots = helper.lots_by_joins(many, row)
            ties = tuple([(x, y, rng.randrange(9)) for x, y in row])
            self.same(lots, lots_at(many, row, len(row)))
            self.same(lots, lots_of(times_of(many, row)[0]))
            self.same(lots, helper.joined(Pile(many), row).lots())
            self.same(lots, sorted(helper.joined(Names(many, (0,) * many), row).lots()))
            self.same(lots, pieces(many, ties))
            chosen = tuple([row[number] for number in least_forest(many, ties)[1]])
            self.same(lots, lots_at(many, chosen, many - len(lots)))

    def test_by_tellings(self):
        for many, row in ROWS:
            tellings = tuple([(x, y, 0) for x, y in row])
            self.same(("fits", (0,) * many), heights(many, 0, tellings))
            for x in sorted({0, many // 2, many - 1}):
                told = [y for y in range(many) if difference(many, 0, tellings, x, y) == 0]
                self.same(helper.reached(many, row, x), tuple(told))

    def test_by_lots_together(self):
        for many, row in ROWS:
            lots = [(x,) for x in range(many)]
            for x, y in row:
                wider = together(many, lots, lots_with(many, x, y))
                self.same(True, is_finer(many, lots, wider))
                lots = wider
            self.same(helper.lots_by_joins(many, row), lots)

    def test_real_joins_are_told_alike(self):
        for many, row in ROWS:
            deeds = tuple([("join", x, y) for x, y in row])
            answers = run(new_store(many, "rank", "halves"), deeds)[1]
            pile, names = Pile(many), Names(many, (1,) * many)
            self.same(answers, [pile.join(x, y) for x, y in row])
            self.same(answers, [names.join(x, y) for x, y in row])

    def test_by_rows_without_a_join_and_piles(self):
        for many, row in ROWS:
            for number in range(0, len(row), 7):
                pile = helper.joined(Pile(many), row)
                pile.back_to(number)
                for x, y in row[number + 1:]:
                    pile.join(x, y)
                self.same(pile.ups(), without(many, row, number)[0])

    def test_whether_two_things_are_in_one_lot(self):
        rng = random.Random(67)
        for many, row in ROWS:
            ups = times_of(many, row)[0]
            ties = tuple([(x, y, 1) for x, y in row])
            pairs = [(x, y) for x in range(many) for y in range(many) if x != y]
            for x, y in rng.sample(pairs, min(len(pairs), 20)):
                one = head_of(ups, x) == head_of(ups, y)
                self.same(y in helper.reached(many, row, x), one)
                self.same(one, first_moment(many, row, x, y)[0] == "one")
                self.same(one, first_clash(many, row, ((x, y),)) != ("none",))
                self.same(one, len(least_strikes(many, row, x, y)[0]) > 0)
                self.same(one, narrowest(many, ties, x, y) is not None)
                self.same(one, chain(many, lots_of(ups), [(z,) for z in range(many)], x, y) is not None)

    def test_boards_are_lots_of_neighbours(self):
        rng = random.Random(68)
        for high, wide in ((1, 40), (40, 1), (5, 8), (6, 6), (1, 1)):
            board = tuple(["".join([rng.choice("ab") for column in range(wide)]) for row in range(high)])
            letters = "".join(board)
            spots = range(len(letters))
            ties = [(at, at + 1, 0) for at in spots if at % wide < wide - 1 and letters[at] == letters[at + 1]]
            ties += [(at, at + wide, 0) for at in spots if at + wide in spots and letters[at] == letters[at + wide]]
            self.same(pieces(len(letters), tuple(ties)), [spots for letter, spots in pieces_of(board)])


def some_pairs(rng, many, count):
    pairs = [(x, y) for x in range(many) for y in range(many) if x != y]
    return rng.sample(pairs, min(len(pairs), count))


def rows_of_deeds(seed):
    rng = random.Random(seed)
    rows = [(many, helper.random_row(rng, many, length)) for many in (1, 2, 5, 12, 40) for length in (0, 9, 60)]
    return rows + [(40, helper.even_deeds(40) + (("find", 39), ("find", 31), ("find", 39)))]


class Papers(Case):
    def takes(self, told, *claim):
        """The checker takes the paper, and the claim is just this one."""
        self.same(tuple(claim), told[0])
        self.same(True, holds(*told))
        self.same(True, helper.holds_by_words(*told))

    def test_first_moments_heads_and_papers(self):
        rng = random.Random(131)
        for many, row in ROWS:
            for x, y in some_pairs(rng, many, 12):
                told = first_moment(many, row, x, y)
                self.takes(paper_two(many, row, x, y), told[0], many, row, x, y)
                heads = [head_at(many, row, at, x) == head_at(many, row, at, y) for at in range(0, len(row) + 1)]
                self.same(told[0] == "one", heads[-1])
                if told[0] == "one":
                    self.same(heads.index(True), told[1])
                    self.takes(paper_first(many, row, x, y), "first", many, row, x, y, told[1])
                    clash = first_clash(many, row, ((x, y),))
                    self.same(("clash", told[1], 0, told[2]), clash)
                    self.same(True, holds(("one", many, row, y, x), told[2][::-1]))
                else:
                    self.same(True, holds(("apart", many, row, x, y), told[1]))

    def test_as_few_strikes_as_roads_and_papers(self):
        rng = random.Random(132)
        for many, row in ROWS:
            for x, y in some_pairs(rng, many, 6):
                strikes, roads = least_strikes(many, row, x, y)
                self.same(len(strikes), len(roads))
                self.takes(paper_strikes(many, row, x, y), "strikes", many, row, x, y, len(strikes))
                struck = tuple([join for number, join in enumerate(row) if number not in strikes])
                self.same("apart", paper_two(many, struck, x, y)[0][0])
                for road in roads:
                    self.same(True, holds(("one", many, row, x, y), road))
                    # With all but one strike done the things are in one lot still.
                    self.same("one", first_moment(many, tuple([row[number] for number in road]), x, y)[0])

    def test_forests_that_come_and_papers(self):
        for many, row in ROWS:
            deeds = tuple([("join", x, y) for x, y in row])
            for join in helper.JOINS:
                ups = run(new_store(many, join, "none"), deeds)[0][2]
                self.takes(paper_shape(join, ups), "comes", join, ups)
                self.same(True, holds(("comes", join, ups), row))
                height, tall = highest(many, join)
                self.same("comes", paper_shape(join, helper.model_by(many, tall, join).ups)[0][0])
                self.assertGreaterEqual(height, max([depth_of(ups, x) for x in range(many)]))

    def test_forests_of_made_short_ways_have_papers_too(self):
        for many, row in rows_of_deeds(133):
            for short in helper.SHORTS:
                ups = run(new_store(many, "told", short), row)[0][2]
                for join in helper.JOINS:
                    told = paper_shape(join, ups)
                    self.takes(told, told[0][0], join, ups)

    def test_worths_pay_for_all_steps(self):
        for many, row in rows_of_deeds(134):
            for join in helper.JOINS:
                for short in helper.SHORTS:
                    total = sum(run(new_store(many, join, short), row)[2])
                    self.takes(paper_steps(many, join, short, row), "steps", many, join, short, row, total)
                    if short in ("whole", "halves"):
                        self.check_paid(paid, new_store(many, join, short), row, total)
            total = sum(run(new_store(many, "rank", "whole"), row)[2])
            self.check_paid(rank_paid, new_store(many, "rank", "whole"), row, total)

    def check_paid(self, pays, store, row, total):
        rest = total
        pay = 0
        for deed in row:
            steps, most, before, behind = pays(store, deed)
            self.assertLessEqual(steps + behind, most + before)
            pay += most + before - behind
            rest -= steps
            store = done(store, deed)[0]
        self.same(0, rest)
        self.assertLessEqual(total, pay)

    def test_a_join_left_out_changes_at_most_one_later_answer(self):
        for many, row in ROWS:
            deeds = tuple([("join", x, y) for x, y in row])
            answers = run(new_store(many, "told", "splits"), deeds)[1]
            for number in range(0, len(row), 5):
                ups, changed = without(many, row, number)
                rest = run(new_store(many, "names", "halves"), deeds[:number] + deeds[number + 1:])[1]
                later = [at for at in range(number + 1, len(row)) if answers[at] != rest[at - 1]]
                self.same(tuple(later), changed)
                self.assertLessEqual(len(changed), 1 if answers[number] else 0)

    def test_tellings_and_papers(self):
        rng = random.Random(135)
        for many, row in ROWS:
            for rest in (0, 2, 1000):
                tellings = tuple([(x, y, (y - x) * 7) for x, y in row])
                self.takes(paper_tellings(many, rest, tellings), "fit", many, rest, tellings)
                for x, y in some_pairs(rng, many, 4):
                    more = difference(many, rest, tellings, x, y)
                    if more is not None:
                        self.takes(paper_differ(many, rest, tellings, x, y), "differ", many, rest, tellings, x, y, more)
                        bent = tellings + ((x, y, more + 1),)
                        self.same(("clash", len(row)), heights(many, rest, bent)[:2])
                        self.takes(paper_tellings(many, rest, bent), "clash", many, rest, bent)

    def test_lots_of_two_rows_and_papers(self):
        rng = random.Random(136)
        for many, row in ROWS:
            half = len(row) // 2
            one, other = lots_at(many, row, half), lots_at(many, row[half:], len(row) - half)
            lots = lots_at(many, row, len(row))
            self.same(lots, together(many, one, other))
            for told in (lots, both(many, one, other), one, other):
                self.same(True, is_lots(many, told))
            self.same([True, True], [is_finer(many, one, lots), is_finer(many, both(many, one, other), one)])
            for x, y in some_pairs(rng, many, 5):
                word = "together" if y in helper.reached(many, row, x) else "not together"
                self.takes(paper_lots(many, one, other, x, y), word, many, tuple(one), tuple(other), x, y)

    def test_webs_and_papers(self):
        rng = random.Random(137)
        for many, row in ROWS:
            ties = tuple([(x, y, rng.randrange(6)) for x, y in row])
            worth, chosen = least_forest(many, ties)
            self.takes(paper_forest(many, ties), "forest", many, ties, worth)
            for x, y in some_pairs(rng, many, 4):
                told = narrowest(many, ties, x, y)
                if told is not None:
                    self.same(True, holds(("one", many, row, x, y), told[1]))
                    lighter = tuple([(x, y) for x, y, by in ties if by < told[0]])
                    self.same("apart", first_moment(many, lighter, x, y)[0])

    def test_boards_and_papers(self):
        rng = random.Random(138)
        for high, wide in ((1, 1), (1, 40), (40, 1), (5, 8), (8, 5), (6, 6), (2, 20)):
            for turn in range(6):
                row = tuple([rng.randrange(high * wide) for step in range(rng.choice([5, 20, 60]))])
                claim, paper = paper_seeps(high, wide, row)
                self.same(True, holds(claim, paper))
                if claim[0] == "through":
                    joins = tuple(zip(paper[0], paper[0][1:]))
                    self.same("one", first_moment(high * wide, joins, paper[0][0], paper[0][-1])[0])
                    ahead = paper_seeps(high, wide, row[:claim[4] - 1])
                    self.same(("shut", high, wide, row[:claim[4] - 1]), ahead[0])


class Desks(Case):
    def test_a_desk_tells_what_the_modules_tell(self):
        rng = random.Random(139)
        for many, row in rows_of_deeds(140):
            join, short = rng.choice(helper.JOINS), rng.choice(helper.SHORTS)
            text = show_row(row)
            self.same(row, read_row(many, text))
            desk = Desk(many, join, short)
            store, answers, steps = run(new_store(many, join, short), row)
            words = [str(told) if told not in (True, False) or type(told) is int else ("idle", "real")[told]
                     for told in answers]
            self.same(words, [desk.say(line) for line in text.split("\n") if line])
            self.same(str(sum(steps)), desk.say("steps"))
            joins = tuple([deed[1:] for deed in row if deed[0] == "join"])
            self.same("; ".join([" ".join(map(str, lot)) for lot in lots_of(store[2])]), desk.say("lots"))
            for x, y in some_pairs(rng, many, 8):
                told = first_moment(many, joins, x, y)
                self.same(str(told[1]) if told[0] == "one" else "apart", desk.say(f"first {x} {y}"))
                self.same(str(len(least_strikes(many, joins, x, y)[0])), desk.say(f"strikes {x} {y}"))
                self.same("holds", desk.say(f"paper {x} {y}"))
                self.same(str(depth_of(store[2], x)), desk.say(f"depth {x}"))
                self.same(" ".join(map(str, lot_of(store[2], y))), desk.say(f"lot {y}"))

    def test_two_things_have_one_head_just_where_joins_lead(self):
        rng = random.Random(141)
        for many, row in ROWS:
            desk = Desk(many, rng.choice(helper.JOINS), rng.choice(helper.SHORTS))
            for x, y in row:
                desk.say(f"join {x} {y}")
            heads = [desk.say(f"find {x}") for x in range(many)]
            for x, y in some_pairs(rng, many, 30):
                self.same(y in helper.reached(many, row, x), heads[x] == heads[y])

    def test_back_and_piles(self):
        for many, row in ROWS:
            desk, pile = Desk(many, "size", "none"), Pile(many)
            for x, y in row:
                desk.say(f"join {x} {y}")
                pile.join(x, y)
            lots = desk.say("lots")
            for turn in range(len(row) // 2):
                self.same("ok", desk.say("back"))
                pile.back()
            for y in range(many):
                told = first_moment(many, pile.joins(), 0, y)
                self.same(str(told[1]) if told[0] == "one" else "apart", desk.say(f"first 0 {y}"))
            self.same(lots, desk.say("lots"))
