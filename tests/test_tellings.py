"""Tellings: promises 19 and 20, and 2, 4 and 7 as far as they go for them."""

import random

from lotheads.errors import NoDeed, NoFit, NoMany, NoRest, NoThing
from lotheads.tellings import difference, heights
from tests import helper
from tests.helper import Case

RESTS = (0, 2, 3, 7, 10, 999, 1000)
TELLINGS = ((0, 1, 5), (2, 3, -4), (1, 0, -5), (4, 4, 0), (3, 1, 2), (2, 0, -7))


def heights_by_flooding(many, rest, tellings):
    """What each thing is more than the least of its lot, or None where the tellings can't be all so."""
    known = {}
    for least in range(many):
        if least not in known:
            known[least] = 0
        for turn in range(many):
            for x, y, more in tellings:
                if x in known:
                    known.setdefault(y, known[x] + more)
                if y in known:
                    known.setdefault(x, known[y] - more)
    if not all([helper.same_by(rest, known[y] - known[x], more) for x, y, more in tellings]):
        return None
    return tuple([known[x] if rest == 0 else known[x] % rest for x in range(many)])


def random_tellings(rng, many, rest, length, wrong):
    """Tellings of hidden numbers, each of them false by this chance."""
    hidden = [rng.choice([0, 1, rng.randrange(-50, 50), rng.randrange(-10 ** 9, 10 ** 9)]) for x in range(many)]
    tellings = []
    for turn in range(length):
        x, y = rng.randrange(many), rng.randrange(many)
        more = hidden[y] - hidden[x] + rest * rng.randrange(-2, 3)
        if rng.random() < wrong:
            more += rng.choice([-1, 1, 2, 10, 1000])
        tellings.append((x, y, more))
    return tuple(tellings)


def many_tellings(seed):
    """(MANY, REST, TELLINGS), some that fit and some that do not."""
    rng = random.Random(seed)
    every = [(6, rest, TELLINGS) for rest in RESTS] + [(1, rest, ()) for rest in RESTS] + [(40, 0, ())]
    for many in (1, 2, 3, 5, 9, 40):
        for length in (1, 4, 12, 60):
            for rest in RESTS:
                wrong = rng.choice([0, 0, 0.05, 0.2, 1])
                every.append((many, rest, random_tellings(rng, many, rest, length, wrong)))
    return every


EVERY = many_tellings(41)


class TellingsCase(Case):
    def check(self, many, rest, tellings):
        told = heights(many, rest, tellings)
        self.told(told, heights, many, rest, tellings)
        known = heights_by_flooding(many, rest, tellings)
        if known is not None:
            self.same(("fits", known), told)
            return
        word, number, ring = told
        self.same("clash", word)
        firsts = [at for at in range(len(tellings)) if heights_by_flooding(many, rest, tellings[:at + 1]) is None]
        self.same(firsts[0], number)
        self.check_ring(many, rest, tellings, number, ring)

    def check_ring(self, many, rest, tellings, number, ring):
        self.assertTrue(helper.plain(ring))
        self.assertIs(tuple, type(ring))
        x, y, more = tellings[number]
        at = x
        seen = [x]
        total = 0
        for place in ring:
            self.assertIs(tuple, type(place))
            gone, sign = place
            self.assertIn(gone, range(number))
            self.assertIn(sign, (1, -1))
            self.assertTrue(helper.is_real(many, tellings, gone))
            start, end, by = tellings[gone]
            self.assertEqual(at, start if sign == 1 else end)
            at = end if sign == 1 else start
            self.assertNotIn(at, seen)
            seen.append(at)
            total += sign * by
        self.assertEqual(y, at)
        self.assertFalse(helper.same_by(rest, total, more))


class Heights(TellingsCase):
    def test_by_hand(self):
        self.told(("fits", (0, 5, 7, 3, 0, 0)), heights, 6, 0, TELLINGS)
        self.told(("fits", (0, 1, 1, 1, 0, 0)), heights, 6, 2, TELLINGS)
        self.told(("fits", (0, 2, 1, 0, 0, 0)), heights, 6, 3, TELLINGS)
        self.told(("fits", (0, 5, 7, 3, 0, 0)), heights, 6, 1000, TELLINGS)
        self.told(("fits", (0, -5)), heights, 2, 0, ((0, 1, -5),))
        self.told(("fits", (0, 5)), heights, 2, 0, ((1, 0, -5),))
        self.told(("fits", (0, 995)), heights, 2, 1000, ((0, 1, -5),))
        self.told(("fits", (0, 0, -1)), heights, 3, 0, ((2, 1, 1),))

    def test_no_tellings(self):
        for rest in RESTS:
            self.told(("fits", (0,)), heights, 1, rest, ())
            self.told(("fits", (0,) * 40), heights, 40, rest, ())

    def test_a_clash_with_its_ring(self):
        clash = TELLINGS + ((0, 2, 8),)
        self.told(("clash", 6, ((0, 1), (4, -1), (1, -1))), heights, 6, 0, clash)
        self.told(("clash", 6, ((0, 1), (4, -1), (1, -1))), heights, 6, 2, clash)
        self.told(("clash", 6, ((1, 1), (4, 1), (0, -1))), heights, 6, 0, TELLINGS + ((2, 0, 0), (0, 2, 8)))
        self.told(("clash", 1, ((0, -1),)), heights, 2, 0, ((0, 1, 5), (1, 0, 5)))
        self.told(("clash", 1, ((0, 1),)), heights, 2, 0, ((0, 1, 5), (0, 1, 6)))
        self.told(("clash", 1, ((0, 1),)), heights, 2, 7, ((0, 1, 5), (0, 1, 6)))
        self.told(("fits", (0, 5)), heights, 2, 10, ((0, 1, 5), (1, 0, 5)))

    def test_the_first_of_several_clashes(self):
        self.told(("clash", 2, ((0, 1),)), heights, 3, 0, ((0, 1, 1), (1, 2, 1), (0, 1, 2), (0, 2, 5)))

    def test_a_thing_with_itself(self):
        for x in (0, 2):
            self.told(("fits", (0, 0, 0)), heights, 3, 0, ((x, x, 0),))
            for more in (1, -1, 2, 7, 1000, -1000):
                self.told(("clash", 0, ()), heights, 3, 0, ((x, x, more),))
                self.told(("clash", 1, ()), heights, 3, 0, ((0, 1, 3), (x, x, more)))
            self.told(("clash", 0, ()), heights, 3, 2, ((x, x, 1),))
            self.told(("clash", 0, ()), heights, 3, 1000, ((x, x, -999),))
            for more in (0, 7, -7, 70, -7 * 10 ** 7):
                self.told(("fits", (0, 0, 0)), heights, 3, 7, ((x, x, more),))

    def test_multiples_of_the_rest(self):
        for rest in RESTS[1:]:
            for times in (-3, -1, 0, 1, 1000):
                self.told(("fits", (0, 0)), heights, 2, rest, ((0, 1, times * rest),))
                self.told(("fits", (0, 1)), heights, 2, rest, ((0, 1, 1), (1, 0, times * rest - 1)))
                self.told(("clash", 1, ((0, -1),)), heights, 2, rest, ((0, 1, 1), (1, 0, times * rest)))

    def test_clashes_at_the_first_and_at_the_last_telling(self):
        good = tuple([(x % 40, (x + 1) % 40, 1 if x % 40 < 39 else -39) for x in range(59)])
        self.check(40, 0, good)
        self.assertEqual("fits", heights(40, 0, good)[0])
        for bad in ((19, 19, 1), (3, 0, 3), (0, 39, 38)):
            self.check(40, 0, good + (bad,))
            self.assertEqual(("clash", 59), heights(40, 0, good + (bad,))[:2])
        self.told(("clash", 0, ()), heights, 40, 0, ((19, 19, 1),) + good)

    def test_a_telling_that_joined_no_lots_is_in_no_ring(self):
        tellings = ((0, 1, 1), (1, 2, 1), (0, 2, 2), (2, 3, 1), (0, 3, 9))
        self.told(("clash", 4, ((0, 1), (1, 1), (3, 1))), heights, 4, 0, tellings)

    def test_many_tellings(self):
        words = []
        for many, rest, tellings in EVERY:
            self.check(many, rest, tellings)
            words.append(heights(many, rest, tellings)[0])
        self.assertGreater(words.count("clash"), 20)
        self.assertGreater(words.count("fits"), 20)

    def test_lots_by_tellings_are_lots_by_joins(self):
        for many, rest, tellings in EVERY:
            told = heights(many, rest, tellings)
            if told[0] == "fits":
                for lot in helper.lots_by_joins(many, [telling[:2] for telling in tellings]):
                    self.assertEqual(0, told[1][lot[0]])


class Differences(TellingsCase):
    def test_by_hand(self):
        self.told(5, difference, 6, 0, TELLINGS, 0, 1)
        self.told(-5, difference, 6, 0, TELLINGS, 1, 0)
        self.told(-2, difference, 6, 0, TELLINGS, 2, 1)
        self.told(998, difference, 6, 1000, TELLINGS, 2, 1)
        self.told(2, difference, 6, 1000, TELLINGS, 1, 2)
        self.told(0, difference, 6, 2, TELLINGS, 1, 2)
        self.told(0, difference, 6, 0, TELLINGS, 3, 3)
        self.told(0, difference, 6, 3, TELLINGS, 5, 5)
        self.told(None, difference, 6, 0, TELLINGS, 0, 4)
        self.told(None, difference, 6, 3, TELLINGS, 5, 4)
        self.told(None, difference, 2, 0, (), 1, 0)

    def test_many_tellings(self):
        rng = random.Random(42)
        for many, rest, tellings in EVERY:
            known = heights_by_flooding(many, rest, tellings)
            pairs = [(x, y) for x in range(many) for y in range(many)]
            for x, y in rng.sample(pairs, min(len(pairs), 12)):
                if known is None:
                    self.refused(NoFit, difference, many, rest, tellings, x, y)
                    continue
                more = known[y] - known[x] if rest == 0 else (known[y] - known[x]) % rest
                one_lot = y in helper.reached(many, [telling[:2] for telling in tellings], x)
                self.told(more if one_lot else None, difference, many, rest, tellings, x, y)

    def test_no_fit_wherever_the_clash_is(self):
        for clash in (TELLINGS + ((0, 2, 8),), ((5, 5, 1),) + TELLINGS, ((4, 5, 1), (5, 4, 1)) + TELLINGS):
            for x in range(6):
                for y in range(6):
                    self.refused(NoFit, difference, 6, 0, clash, x, y)
        self.told(1, difference, 6, 2, ((4, 5, 1), (5, 4, 1)), 4, 5)


class Refusals(Case):
    def calls(self, many, rest, tellings, x, y):
        return ((heights, (many, rest, tellings)), (difference, (many, rest, tellings, x, y)))

    def test_no_many_of_any_kind(self):
        for wrong in helper.wrong_manies():
            for function, arguments in self.calls(wrong, 0, TELLINGS, 0, 1):
                self.refused(NoMany, function, *arguments)

    def test_no_rest_of_any_kind(self):
        more = [1, 1001, 1002, 2000, -2, -7, -1000, "0", "2", "7", (), (2,), [0], [2], {2}, (0, 2)]
        for wrong in helper.wrong_things() + helper.deep_things(12) + more:
            for function, arguments in self.calls(6, wrong, TELLINGS, 0, 1):
                self.refused(NoRest, function, *arguments)
            for function, arguments in self.calls(6, wrong, (), 0, 1):
                self.refused(NoRest, function, *arguments)

    def test_each_rest_is_taken(self):
        for rest in [0] + list(range(2, 1001)):
            self.same(("fits", (0, 1 % rest if rest else 1)), heights(2, rest, ((0, 1, 1),)))

    def test_no_row_of_any_kind(self):
        for wrong in helper.wrong_rows() + [list(TELLINGS)]:
            for function, arguments in self.calls(6, 0, wrong, 0, 1):
                self.refused_at(None, NoDeed, function, *arguments)

    def test_no_telling_at_each_place_of_a_row(self):
        for wrong in helper.wrong_triples(6):
            for number in range(len(TELLINGS)):
                tellings = helper.with_place(TELLINGS, number, wrong)
                for function, arguments in self.calls(6, 7, tellings, 0, 1):
                    self.refused_at(number, NoDeed, function, *arguments)
                for function, arguments in self.calls(6, 7, tellings + (None, (0, 6, 0)), 0, 1):
                    self.refused_at(number, NoDeed, function, *arguments)

    def test_what_is_no_telling_counts_behind_a_clash_too(self):
        for function, arguments in self.calls(6, 0, ((0, 0, 1), (0, 0, "1")), 0, 1):
            self.refused_at(1, NoDeed, function, *arguments)

    def test_no_thing_of_any_kind(self):
        for many in (5, 6, 40):
            for wrong in helper.wrong_numbers(many):
                self.refused(NoThing, difference, many, 0, TELLINGS, wrong, 0)
                self.refused(NoThing, difference, many, 0, TELLINGS, 0, wrong)
                self.refused(NoThing, difference, many, 0, TELLINGS, wrong, wrong)

    def test_their_order(self):
        bad = TELLINGS + ((0, 9, 0),)
        clash = TELLINGS + ((0, 2, 8),)
        for wrong in helper.wrong_things() + [1, 1001]:
            if wrong != 1:
                for function, arguments in self.calls(wrong, wrong, wrong, wrong, wrong):
                    self.refused(NoMany, function, *arguments)
            for function, arguments in self.calls(41, wrong, bad, wrong, wrong):
                self.refused(NoMany, function, *arguments)
            for function, arguments in self.calls(6, wrong, bad, wrong, wrong):
                self.refused(NoRest, function, *arguments)
            for function, arguments in self.calls(6, wrong, wrong, wrong, wrong):
                self.refused(NoRest, function, *arguments)
            for function, arguments in self.calls(6, 0, bad, wrong, wrong):
                self.refused_at(6, NoDeed, function, *arguments)
            for function, arguments in self.calls(6, 0, list(clash), wrong, wrong):
                self.refused_at(None, NoDeed, function, *arguments)
        for wrong in helper.wrong_numbers(6):
            self.refused(NoThing, difference, 6, 0, clash, wrong, 0)
            self.refused(NoThing, difference, 6, 0, clash, 0, wrong)
