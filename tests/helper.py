"""What the tests share: wrong things of any kind, many forests, and a plain model of stores.

The model is written from the document's words alone and uses nothing of the package.
"""

import copy
import itertools
import random
import unittest

JOINS = ("size", "rank", "told", "names")
SHORTS = ("none", "whole", "halves", "splits", "one")
SIDES = [(high, wide) for high in range(1, 41) for wide in range(1, 41) if high * wide <= 40]


def nested(inner, wrap, times):
    for turn in range(times):
        inner = wrap(inner)
    return inner


def wrong_things():
    """New things of many kinds, of which none is a thing, a word, a forest or a row of deeds."""
    return [
        None, True, False, "", "0", "x", "find", "NONE", "none ", " size", "Size", "size\n", b"", b"none", b"size",
        [], [0], ["none"], ["size"], [0, 0], [[0], [1]], {}, {0: 0}, {"none": 0}, {"size": 1}, {"a": [1, {}]},
        ("none",), ("size",), (None,), ((),), ((0,), (1,)), ([0],), ({},), ("0",), (True,), (False,),
        -1, -40, 10 ** 9, 10 ** 30, -10 ** 30, set(), {0}, frozenset([0]), range(2), len, int,
    ] + deep_things(10)


def deep_things(deep):
    """Wrong things of this depth: ten deep they may stand in a row, too, and stay within twelve."""
    return [
        nested(0, lambda inner: (inner,), deep), nested((), lambda inner: [inner], deep - 1),
        nested(None, lambda inner: {0: inner}, deep), nested("a", lambda inner: (0, inner), deep),
    ]


def wrong_numbers(count):
    """What is no whole number from 0 to count - 1, of any kind."""
    return wrong_things() + deep_things(12) + [(), (0,), (0, 1), "1", [1], count, count + 1, count + 40, "none", "size"]


def wrong_manies():
    return wrong_things() + deep_things(12) + [0, 41, 42, 100, "1", "40", (), (1,), [1], [40], "none", "size"]


def wrong_words(words):
    """What is none of the words, of any kind."""
    more = [(), (0,), 0, 1, list(words), tuple(words), words[0] + words[1], words[0].upper(), words[0][:-1]]
    return wrong_things() + deep_things(12) + more + [word.encode() for word in words] + [(word,) for word in words]


def wrong_forests():
    """What is no forest, of any kind: rings, ups beyond, no things, forty-one things."""
    rings = [(1, 0), (1, 2, 0), (0, 2, 1), (1, 0, 2), (0, 2, 3, 1), (3, 0, 1, 2), (0, 1, 3, 4, 2), (1, 2, 1)]
    rings += [tuple([(x + 1) % 40 for x in range(40)]), tuple(list(range(38)) + [39, 38])]
    ups = [(-1,), (1,), (0, 2), (2, 1), (0, -1), (0, 0, 3), (0, 10 ** 30), (0, True), (False,), (True, True)]
    ups += [(0, None), (0, "0"), ("0", "1"), (0, (0,)), ((0,), (0,)), (0, [0]), (0, {}), (0, b"0")]
    sizes = [(), tuple(range(41)), (0,) * 41, tuple([max(0, x - 1) for x in range(41)]), (0,) * 60]
    lists = [[0], [0, 0], [0, 1, 2], list(range(40)), {0: 0, 1: 1}, "01", b"\x00\x00", range(1), range(3)]
    return wrong_things() + deep_things(12) + rings + ups + sizes + lists + [0, 1, 40]


def no_things(many):
    return [many, many + 1, -1, 10 ** 30, True, False, None, "0", "", b"0", (), (0,), [0], {}] + deep_things(9)


def wrong_deeds(many):
    """What is no deed of many things, of any kind."""
    wrong = wrong_things() + [(), ("find",), ("join",), ("find", 0, 0), ("join", 0), ("join", 0, 0, 0)]
    wrong += [["find", 0], ["join", 0, 0], ("FIND", 0), ("finds", 0), ("Join", 0, 0), (b"find", 0), (0, "find")]
    wrong += [(["find"], 0), (("find",), 0), (None, 0), (0, 0), (0, 0, 0), "find 0", {"find": 0}, ({}, 0)]
    for x in no_things(many):
        wrong += [("find", x), ("join", x, 0), ("join", 0, x), ("join", x, x)]
    return wrong


def wrong_joins(many):
    """What is no tuple of two of many things, of any kind."""
    wrong = wrong_things() + [(), (0,), (0, 0, 0), [0, 0], ("join", 0, 0), ("find", 0), ("0", "0"), "00", b"\x00\x00"]
    for x in no_things(many):
        wrong += [(x, 0), (0, x), (x, x)]
    return wrong


def wrong_pairs(many):
    """What is no tuple of two unlike ones of many things, of any kind."""
    return wrong_joins(many) + [(x, x) for x in range(many)]


def wrong_triples(many):
    """What is no tuple of two of many things and a whole number, of any kind."""
    wrong = wrong_things() + [(), (0,), (0, 0), (0, 0, 0, 0), [0, 0, 0], ((0, 0), 0), (0, (0, 0)), "000", b"000"]
    wrong += [("join", 0, 0), ("find", 0), {0: 0, 1: 1, 2: 2}]
    for x in no_things(many):
        wrong += [(x, 0, 0), (0, x, 0), (x, x, 0), (x, x, x)]
    for number in (None, True, False, "", "0", b"0", (), (0,), [0], {}, len, *deep_things(9)):
        wrong += [(0, 0, number), (0, many - 1, number)]
    return wrong


def wrong_ties(many):
    """What is no tuple of two of many things and a whole number from 0 on, of any kind."""
    return wrong_triples(many) + [(0, 0, -1), (0, many - 1, -1), (many - 1, 0, -10 ** 9)]


def wrong_lots(many):
    """What is no lots of many things, at least three, of any kind: at one of the lots and as a whole."""
    single = [(x,) for x in range(many)]
    wrong = [single[1:], single[:-1], single + [(many,)], single[1:] + single[:1], single[::-1], single + [()]]
    wrong += [[()] + single, single + single[-1:], single[:1] + single, [tuple(range(many)), (many - 1,)]]
    wrong += [[tuple(range(many))[::-1]], [tuple(range(many)) + (many - 1,)], [(0, 0)] + single[1:], [], [()]]
    wrong += [[tuple(range(many))] * 2, [tuple(range(many + 1))], [tuple(range(1, many))], [(-1, 0)] + single[1:]]
    wrong += [[(1,), (0,)] + single[2:], [(1, 2), (0,)] + single[3:], [(0, 2), (2, 1)] + single[3:]]
    wrong += [[(0, 1), (1, 2)] + single[3:], [(1, 0)] + single[2:], tuple(range(many)), list(range(many))]
    # (0,) is a lot; by == this would leave out (False,), too.
    for x in [x for x in no_things(many) + wrong_things() if repr(x) != "(0,)"]:
        wrong += [[x] + single[1:], single[:-1] + [x], [(x,)] + single[1:], single[:-1] + [(x,)], [(0, x)] + single[1:]]
        wrong += [[(0, 1, x)] + single[2:], single + [x]]
    wrong += [[list(lot) for lot in single], [[0]] + single[1:], single[:-1] + [[many - 1]]]
    wrong += [[set(lot) for lot in single], dict.fromkeys(single), dict(enumerate(single)), set(single), "012"]
    return [place for lots in wrong for place in ([lots, tuple(lots)] if isinstance(lots, list) else [lots])]


def wrong_rows():
    """What is no tuple, of any kind."""
    whole = [("find", 0)], [(0, 0)], {}, {0: ("find", 0)}, "", "find 0", b"", 0, 1
    return [thing for thing in wrong_things() if not isinstance(thing, tuple)] + list(whole)


def with_place(row, number, thing):
    return row[:number] + (thing,) + row[number + 1:]


def all_forests(many):
    return [ups for ups in itertools.product(range(many), repeat=many) if comes_to_heads(ups)]


def comes_to_heads(ups):
    for x in range(len(ups)):
        seen = []
        while x not in seen:
            seen.append(x)
            x = ups[x]
        if ups[x] != x:
            return False
    return True


def chain(many, rising):
    if rising:
        return tuple([min(x + 1, many - 1) for x in range(many)])
    return tuple([max(x - 1, 0) for x in range(many)])


def random_forest(rng, many):
    order = rng.sample(range(many), many)
    reach = rng.choice([1, 2, 4, many])
    ups = [0] * many
    for at, x in enumerate(order):
        above = rng.randrange(max(0, at - reach), at + 1)
        # Without this a forest of a short reach would fall into single things.
        if above == at and at > 0 and rng.random() < 0.8:
            above = at - 1
        ups[x] = order[above]
    return tuple(ups)


def many_forests(seed, count):
    """All small forests, chains, stars, single things, and count forests of up to forty things."""
    forests = [ups for many in (1, 2, 3, 4) for ups in all_forests(many)]
    for many in (5, 39, 40):
        forests += [chain(many, True), chain(many, False), tuple(range(many))]
        forests += [(head,) * many for head in (0, many // 2, many - 1)]
    rng = random.Random(seed)
    return forests + [random_forest(rng, rng.randrange(2, 41)) for turn in range(count)]


def way(ups, x):
    return (x,) if ups[x] == x else (x,) + way(ups, ups[x])


def lots(ups):
    heads = [way(ups, x)[-1] for x in range(len(ups))]
    told = [tuple([y for y in range(len(ups)) if heads[y] == head]) for head in set(heads)]
    return sorted(told)


def size(ups, x):
    return len([y for y in range(len(ups)) if x in way(ups, y)])


def height(ups):
    return max([len(way(ups, x)) - 1 for x in range(len(ups))])


def doubled(number):
    many = 0
    one = 2
    while one <= number:
        one *= 2
        many += 1
    return many


def find_by_way(ups, short, x):
    """(HEAD, UPS, STEPS) told from the way W(0) .. W(D) of x, without going it."""
    gone = way(ups, x)
    last = len(gone) - 1
    behind = list(ups)
    if short == "whole":
        for at in gone:
            behind[at] = gone[-1]
    if short == "one":
        behind[x] = gone[min(2, last)]
    if short in ("halves", "splits"):
        for at in range(0, last, 2 if short == "halves" else 1):
            behind[gone[at]] = gone[min(at + 2, last)]
    steps = (last + 1) // 2 if short == "halves" else last
    return gone[-1], tuple(behind), steps


class Model:
    """A store that is changed by deeds."""

    def __init__(self, many, join, short):
        self.join = join
        self.short = short
        self.ups = tuple(range(many))
        self.marks = [1 if join == "size" else 0] * many

    def store(self):
        return (self.join, self.short, self.ups, tuple(self.marks))

    def find(self, x):
        head, self.ups, steps = find_by_way(self.ups, self.short, x)
        return head, steps

    def top(self, one, other):
        if self.join == "told":
            return one
        if self.join == "names":
            return min(one, other)
        return other if self.marks[other] > self.marks[one] else one

    def join_two(self, x, y):
        one, steps = self.find(x)
        other, more = self.find(y)
        if one == other:
            return False, steps + more
        top = self.top(one, other)
        under = other if top == one else one
        self.ups = with_place(self.ups, under, top)
        if self.join == "size":
            self.marks[top] += self.marks[under]
        if self.join == "rank" and self.marks[one] == self.marks[other]:
            self.marks[top] += 1
        return True, steps + more

    def do(self, deed):
        return self.find(deed[1]) if deed[0] == "find" else self.join_two(deed[1], deed[2])


def model_of(store):
    model = Model(len(store[2]), store[0], store[1])
    model.ups = store[2]
    model.marks = list(store[3])
    return model


def model_by(many, joins, join="size", short="none"):
    model = Model(many, join, short)
    for x, y in joins:
        model.join_two(x, y)
    return model


def reached(many, joins, x):
    """The rising tuple of all things to which joins lead from x, by flooding."""
    wet = [x]
    for at in wet:
        for one, other in joins:
            for here, there in ((one, other), (other, one)):
                if here == at and there not in wet:
                    wet.append(there)
    return tuple(sorted(wet))


def random_row(rng, many, length):
    """Deeds; some joins are of alike things and some are done again."""
    row = []
    for turn in range(length):
        x, y = rng.randrange(many), rng.randrange(many)
        chance = rng.random()
        if chance < 0.35:
            row.append(("find", x))
        elif chance < 0.4:
            row.append(("join", x, x))
        elif chance < 0.5 and row:
            row.append(rng.choice(row))
        else:
            row.append(("join", x, y))
    return tuple(row)


def even_deeds(many):
    """Joins of trees of one size as long as there are such: by size and rank none get deeper."""
    row = []
    width = 1
    while width < many:
        row += [("join", x, x + width) for x in range(0, many - width, 2 * width)]
        width *= 2
    return tuple(row)


def random_joins(rng, many, length):
    return tuple([deed[1:] for deed in random_row(rng, many, 3 * length) if deed[0] == "join"][:length])


def rows_of_joins(seed):
    """(MANY, ROW): one thing and forty, no joins and sixty, chains, stars, and rows by chance."""
    rng = random.Random(seed)
    rows = [(1, ()), (1, ((0, 0),) * 60), (40, ()), (4, ()), (2, ((0, 1),) * 60), (3, ((0, 1), (1, 2), (2, 0)))]
    for many in (2, 3, 4, 5, 8, 20, 40):
        for length in (1, 4, 12, 60):
            rows.append((many, random_joins(rng, many, length)))
    rows.append((40, tuple([(x, x + 1) for x in range(39)])))
    rows.append((40, tuple([(39 - x, 38 - x) for x in rng.sample(range(39), 39)])))
    rows.append((40, tuple([(0, x) for x in range(1, 40)])))
    rows.append((40, tuple([(x, (x + 1) % 40) for x in range(40)])))
    return rows


def lots_by_joins(many, joins):
    """All lots, by flooding, by their least things."""
    return sorted(set([reached(many, joins, x) for x in range(many)]))


def joined(holder, row):
    """The pile, or the names, behind these joins."""
    for x, y in row:
        holder.join(x, y)
    return holder


def is_real(many, row, number):
    """Whether the things of this join, or telling, were apart ahead of it, by flooding."""
    x, y = row[number][:2]
    return y not in reached(many, [place[:2] for place in row[:number]], x)


def reals(many, row):
    return [number for number in range(len(row)) if is_real(many, row, number)]


def things_on(row, x, road):
    """The things that a road of numbers comes to from x on; fails where it breaks."""
    things = [x]
    for number in road:
        one, other = row[number][:2]
        assert type(number) is int and number >= 0 and things[-1] in (one, other), (row, x, road)
        things.append(other if things[-1] == one else one)
    return things


def all_lots(many):
    """All ways in which many things can lie in lots, each by least things."""
    if many == 0:
        return [[]]
    told = []
    for lots in all_lots(many - 1):
        told.append(lots + [(many - 1,)])
        for at, lot in enumerate(lots):
            told.append(lots[:at] + [lot + (many - 1,)] + lots[at + 1:])
    return told


def random_lots(rng, many):
    """Lots of many things by chance, now coarser, now finer."""
    count = rng.randrange(rng.randrange(1, 2 * many))
    return lots_by_joins(many, random_joins(rng, many, min(count, 60)))


def flood_places(places, starts, reach):
    """All of these places to which steps from starts lead, each of at most reach rows and columns together or,
    where reach is 2, of one row and one column."""
    wet = [place for place in starts if place in places]
    for row, column in wet:
        for below in (-1, 0, 1):
            for beside in (-1, 0, 1):
                next_one = (row + below, column + beside)
                if abs(below) + abs(beside) <= reach and next_one in places and next_one not in wet:
                    wet.append(next_one)
    return wet


def seeps_by_places(high, wide, opened):
    """Whether open spots lead from the first row to the last, by flooding over places (ROW, COLUMN)."""
    places = {divmod(spot, wide) for spot in opened}
    return any([row == high - 1 for row, column in flood_places(places, [(0, at) for at in range(wide)], 1)])


def walled_by_places(high, wide, opened):
    """Whether shut spots lead from the first column to the last, by corners, too."""
    places = {divmod(spot, wide) for spot in range(high * wide) if spot not in opened}
    return any([column == wide - 1 for row, column in flood_places(places, [(at, 0) for at in range(high)], 2)])


def plain(told):
    """Whether all that is told is ints that are no truths, truths, texts, None, lists and tuples of these."""
    if type(told) in (list, tuple):
        return all([plain(inner) for inner in told])
    return told is None or type(told) in (int, bool, str)


class Case(unittest.TestCase):
    def told(self, expected, function, *arguments):
        """Asks twice, and spoils each list told first: it must be told anew, of arguments that stay."""
        kept = copy.deepcopy(arguments)
        first = function(*arguments)
        self.same(expected, first)
        spoil(first)
        self.assertEqual(kept, arguments)
        self.same(expected, function(*arguments))
        self.assertEqual(kept, arguments)

    def same(self, expected, told):
        self.assertEqual(expected, told)
        # To Python True equals 1, so the kinds are held together, too.
        self.assertEqual(repr(expected), repr(told))

    def check_real_road(self, many, row, x, y, road):
        """It leads from x to y by real joins and comes to no thing twice."""
        self.assertIs(tuple, type(road))
        gone = things_on(row, x, road)
        self.assertEqual(y, gone[-1])
        self.assertEqual(len(gone), len(set(gone)))
        self.assertEqual([], [number for number in road if not is_real(many, row, number)])

    def refused(self, kind, function, *arguments):
        """Asks for just this class of refusal, arguments unchanged, and gives the error."""
        kept = copy.deepcopy(arguments)
        try:
            told = function(*arguments)
        except ValueError as error:
            self.assertEqual(kind.__name__, type(error).__name__)
            self.assertIs(kind, type(error))
            self.assertEqual(kept, arguments)
            return error
        self.fail(f"{function.__name__}{arguments!r} told {told!r}, not {kind.__name__}")

    def refused_at(self, number, kind, function, *arguments):
        error = self.refused(kind, function, *arguments)
        self.assertEqual(repr(number), repr(error.number))


def spoil(told):
    if isinstance(told, (list, tuple)):
        for inner in told:
            spoil(inner)
    if isinstance(told, list):
        told.reverse()
        told.append("spoilt")
