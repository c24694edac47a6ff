"""What the tests share: wrong things of any kind, many forests, and a plain model of stores.

The model is written from the document's words alone and uses nothing of the package.
"""

import copy
import itertools
import random
import unittest

JOINS = ("size", "rank", "told", "names")
SHORTS = ("none", "whole", "halves", "splits", "one")
SIDES = [(high, wide) for high in range(1, 41) for wide in range(1, 41) if high * wide <= 40]


def nested(inner, wrap, times):
    for turn in range(times):
        inner = wrap(inner)
    return inner


def wrong_things():
    """New things of many kinds, of which none is a thing, a word, a forest or a row of deeds."""
    return [
        None, True, False, "", "0", "x", "find", "NONE", "none ", " size", "Size", "size\n", b"", b"none", b"size",
        [], [0], ["none"], ["size"], [0, 0], [[0], [1]], {}, {0: 0}, {"none": 0}, {"size": 1}, {"a": [1, {}]},
        ("none",), ("size",), (None,), ((),), ((0,), (1,)), ([0],), ({},), ("0",), (True,), (False,),
        -1, -40, 10 ** 9, 10 ** 30, -10 ** 30, set(), {0}, frozenset([0]), range(2), len, int,
    ] + deep_things(10)


def deep_things(deep):
    """Wrong things of this depth: ten deep they may stand in a row, too, and stay within twelve."""
    return [
        nested(0, lambda inner: (inner,), deep), nested((), lambda inner: [inner], deep - 1),
        nested(None, lambda inner: {0: inner}, deep), nested("a", lambda inner: (0, inner), deep),
    ]


def wrong_numbers(count):
    """What is no whole number from 0 to count - 1, of any kind."""
    return wrong_things() + deep_things(12) + [(), (0,), (0, 1), "1", [1], count, count + 1, count + 40, "none", "size"]


def wrong_manies():
    return wrong_things() + deep_things(12) + [0, 41, 42, 100, "1", "40", (), (1,), [1], [40], "none", "size"]


def wrong_words(words):
    """What is none of the words, of any kind."""
    more = [(), (0,), 0, 1, list(words), tuple(words), words[0] + words[1], words[0].upper(), words[0][:-1]]
    return wrong_things() + deep_things(12) + more + [word.encode() for word in words] + [(word,) for word in words]


def wrong_forests():
    """What is no forest, of any kind: rings, ups beyond, no things, forty-one things."""
    rings = [(1, 0), (1, 2, 0), (0, 2, 1), (1, 0, 2), (0, 2, 3, 1), (3, 0, 1, 2), (0, 1, 3, 4, 2), (1, 2, 1)]
    rings += [tuple([(x + 1) % 40 for x in range(40)]), tuple(list(range(38)) + [39, 38])]
    ups = [(-1,), (1,), (0, 2), (2, 1), (0, -1), (0, 0, 3), (0, 10 ** 30), (0, True), (False,), (True, True)]
    ups += [(0, None), (0, "0"), ("0", "1"), (0, (0,)), ((0,), (0,)), (0, [0]), (0, {}), (0, b"0")]
    sizes = [(), tuple(range(41)), (0,) * 41, tuple([max(0, x - 1) for x in range(41)]), (0,) * 60]
    lists = [[0], [0, 0], [0, 1, 2], list(range(40)), {0: 0, 1: 1}, "01", b"\x00\x00", range(1), range(3)]
    return wrong_things() + deep_things(12) + rings + ups + sizes + lists + [0, 1, 40]


def no_things(many):
    return [many, many + 1, -1, 10 ** 30, True, False, None, "0", "", b"0", (), (0,), [0], {}] + deep_things(9)


def wrong_deeds(many):
    """What is no deed of many things, of any kind."""
    wrong = wrong_things() + [(), ("find",), ("join",), ("find", 0, 0), ("join", 0), ("join", 0, 0, 0)]
    wrong += [["find", 0], ["join", 0, 0], ("FIND", 0), ("finds", 0), ("Join", 0, 0), (b"find", 0), (0, "find")]
    wrong += [(["find"], 0), (("find",), 0), (None, 0), (0, 0), (0, 0, 0), "find 0", {"find": 0}, ({}, 0)]
    for x in no_things(many):
        wrong += [("find", x), ("join", x, 0), ("join", 0, x), ("join", x, x)]
    return wrong


def wrong_joins(many):
    """What is no tuple of two of many things, of any kind."""
    wrong = wrong_things() + [(), (0,), (0, 0, 0), [0, 0], ("join", 0, 0), ("find", 0), ("0", "0"), "00", b"\x00\x00"]
    for x in no_things(many):
        wrong += [(x, 0), (0, x), (x, x)]
    return wrong


def wrong_pairs(many):
    """What is no tuple of two unlike ones of many things, of any kind."""
    return wrong_joins(many) + [(x, x) for x in range(many)]


def wrong_triples(many):
    """What is no tuple of two of many things and a whole number, of any kind."""
    wrong = wrong_things() + [(), (0,), (0, 0), (0, 0, 0, 0), [0, 0, 0], ((0, 0), 0), (0, (0, 0)), "000", b"000"]
    wrong += [("join", 0, 0), ("find", 0), {0: 0, 1: 1, 2: 2}]
    for x in no_things(many):
        wrong += [(x, 0, 0), (0, x, 0), (x, x, 0), (x, x, x)]
    for number in (None, True, False, "", "0", b"0", (), (0,), [0], {}, len, *deep_things(9)):
        wrong += [(0, 0, number), (0, many - 1, number)]
    return wrong


def wrong_ties(many):
    """What is no tuple of two of many things and a whole number from 0 on, of any kind."""
    return wrong_triples(many) + [(0, 0, -1), (0, many - 1, -1), (many - 1, 0, -10 ** 9)]


def wrong_lots(many):
    """What is no lots of many things, at least three, of any kind: at one of the lots and as a whole."""
    single = [(x,) for x in range(many)]
    wrong = [single[1:], single[:-1], single + [(many,)], single[1:] + single[:1], single[::-1], single + [()]]
    wrong += [[()] + single, single + single[-1:], single[:1] + single, [tuple(range(many)), (many - 1,)]]
    wrong += [[tuple(range(many))[::-1]], [tuple(range(many)) + (many - 1,)], [(0, 0)] + single[1:], [], [()]]
    wrong += [[tuple(range(many))] * 2, [tuple(range(many + 1))], [tuple(range(1, many))], [(-1, 0)] + single[1:]]
    wrong += [[(1,), (0,)] + single[2:], [(1, 2), (0,)] + single[3:], [(0, 2), (2, 1)] + single[3:]]
    wrong += [[(0, 1), (1, 2)] + single[3:], [(1, 0)] + single[2:], tuple(range(many)), list(range(many))]
    # (0,) is a lot; by == this would leave out (False,), too.
    for x in [x for x in no_things(many) + wrong_things() if repr(x) != "(0,)"]:
        wrong += [[x] + single[1:], single[:-1] + [x], [(x,)] + single[1:], single[:-1] + [(x,)], [(0, x)] + single[1:]]
        wrong += [[(0, 1, x)] + single[2:], single + [x]]
    wrong += [[list(lot) for lot in single], [[0]] + single[1:], single[:-1] + [[many - 1]]]
    wrong += [[set(lot) for lot in single], dict.fromkeys(single), dict(enumerate(single)), set(single), "012"]
    return [place for lots in wrong for place in ([lots, tuple(lots)] if isinstance(lots, list) else [lots])]


def wrong_rows():
    """What is no tuple, of any kind."""
    whole = [("find", 0)], [(0, 0)], {}, {0: ("find", 0)}, "", "find 0", b"", 0, 1
    return [thing for thing in wrong_things() if not isinstance(thing, tuple)] + list(whole)


def with_place(row, number, thing):
    return row[:number] + (thing,) + row[number + 1:]


def all_forests(many):
    return [ups for ups in itertools.product(range(many), repeat=many) if comes_to_heads(ups)]


def comes_to_heads(ups):
    for x in range(len(ups)):
        seen = []
        while x not in seen:
            seen.append(x)
            x = ups[x]
        if ups[x] != x:
            return False
    return True


def chain(many, rising):
    if rising:
        return tuple([min(x + 1, many - 1) for x in range(many)])
    return tuple([max(x - 1, 0) for x in range(many)])


def random_forest(rng, many):
    order = rng.sample(range(many), many)
    reach = rng.choice([1, 2, 4, many])
    ups = [0] * many
    for at, x in enumerate(order):
        above = rng.randrange(max(0, at - reach), at + 1)
        # Without this a forest of a short reach would fall into single things.
        if above == at and at > 0 and rng.random() < 0.8:
            above = at - 1
        ups[x] = order[above]
    return tuple(ups)


def many_forests(seed, count):
    """All small forests, chains, stars, single things, and count forests of up to forty things."""
    forests = [ups for many in (1, 2, 3, 4) for ups in all_forests(many)]
    for many in (5, 39, 40):
        forests += [chain(many, True), chain(many, False), tuple(range(many))]
        forests += [(head,) * many for head in (0, many // 2, many - 1)]
    rng = random.Random(seed)
    return forests + [random_forest(rng, rng.randrange(2, 41)) for turn in range(count)]


def way(ups, x):
    return (x,) if ups[x] == x else (x,) + way(ups, ups[x])


def lots(ups):
    heads = [way(ups, x)[-1] for x in range(len(ups))]
    told = [tuple([y for y in range(len(ups)) if heads[y] == head]) for head in set(heads)]
    return sorted(told)


def size(ups, x):
    return len([y for y in range(len(ups)) if x in way(ups, y)])


def height(ups):
    return max([len(way(ups, x)) - 1 for x in range(len(ups))])


def doubled(number):
    many = 0
    one = 2
    while one <= number:
        one *= 2
        many += 1
    return many


def find_by_way(ups, short, x):
    """(HEAD, UPS, STEPS) told from the way W(0) .. W(D) of x, without going it."""
    gone = way(ups, x)
    last = len(gone) - 1
    behind = list(ups)
    if short == "whole":
        for at in gone:
            behind[at] = gone[-1]
    if short == "one":
        behind[x] = gone[min(2, last)]
    if short in ("halves", "splits"):
        for at in range(0, last, 2 if short == "halves" else 1):
            behind[gone[at]] = gone[min(at + 2, last)]
    steps = (last + 1) // 2 if short == "halves" else last
    return gone[-1], tuple(behind), steps


class Model:
    """A store that is changed by deeds."""

    def __init__(self, many, join, short):
        self.join = join
        self.short = short
        self.ups = tuple(range(many))
        self.marks = [1 if join == "size" else 0] * many

    def store(self):
        return (self.join, self.short, self.ups, tuple(self.marks))

    def find(self, x):
        head, self.ups, steps = find_by_way(self.ups, self.short, x)
        return head, steps

    def top(self, one, other):
        if self.join == "told":
            return one
        if self.join == "names":
            return min(one, other)
        return other if self.marks[other] > self.marks[one] else one

    def join_two(self, x, y):
        one, steps = self.find(x)
        other, more = self.find(y)
        if one == other:
            return False, steps + more
        top = self.top(one, other)
        under = other if top == one else one
        self.ups = with_place(self.ups, under, top)
        if self.join == "size":
            self.marks[top] += self.marks[under]
        if self.join == "rank" and self.marks[one] == self.marks[other]:
            self.marks[top] += 1
        return True, steps + more

    def do(self, deed):
        return self.find(deed[1]) if deed[0] == "find" else self.join_two(deed[1], deed[2])


def model_of(store):
    model = Model(len(store[2]), store[0], store[1])
    model.ups = store[2]
    model.marks = list(store[3])
    return model


def model_by(many, joins, join="size", short="none"):
    model = Model(many, join, short)
    for x, y in joins:
        model.join_two(x, y)
    return model


def reached(many, joins, x):
    """The rising tuple of all things to which joins lead from x, by flooding."""
    wet = [x]
    for at in wet:
        for one, other in joins:
            for here, there in ((one, other), (other, one)):
                if here == at and there not in wet:
                    wet.append(there)
    return tuple(sorted(wet))


def random_row(rng, many, length):
    """Deeds; some joins are of alike things and some are done again."""
    row = []
    for turn in range(length):
        x, y = rng.randrange(many), rng.randrange(many)
        chance = rng.random()
        if chance < 0.35:
            row.append(("find", x))
        elif chance < 0.4:
            row.append(("join", x, x))
        elif chance < 0.5 and row:
            row.append(rng.choice(row))
        else:
            row.append(("join", x, y))
    return tuple(row)


def even_deeds(many):
    """Joins of trees of one size as long as there are such: by size and rank none get deeper."""
    row = []
    width = 1
    while width < many:
        row += [("join", x, x + width) for x in range(0, many - width, 2 * width)]
        width *= 2
    return tuple(row)


def random_joins(rng, many, length):
    return tuple([deed[1:] for deed in random_row(rng, many, 3 * length) if deed[0] == "join"][:length])


def rows_of_joins(seed):
    """(MANY, ROW): one thing and forty, no joins and sixty, chains, stars, and rows by chance."""
    rng = random.Random(seed)
    rows = [(1, ()), (1, ((0, 0),) * 60), (40, ()), (4, ()), (2, ((0, 1),) * 60), (3, ((0, 1), (1, 2), (2, 0)))]
    for many in (2, 3, 4, 5, 8, 20, 40):
        for length in (1, 4, 12, 60):
            rows.append((many, random_joins(rng, many, length)))
    rows.append((40, tuple([(x, x + 1) for x in range(39)])))
    rows.append((40, tuple([(39 - x, 38 - x) for x in rng.sample(range(39), 39)])))
    rows.append((40, tuple([(0, x) for x in range(1, 40)])))
    rows.append((40, tuple([(x, (x + 1) % 40) for x in range(40)])))
    return rows


def lots_by_joins(many, joins):
    """All lots, by flooding, by their least things."""
    return sorted(set([reached(many, joins, x) for x in range(many)]))


def joined(holder, row):
    """The pile, or the names, behind these joins."""
    for x, y in row:
        holder.join(x, y)
    return holder


def is_real(many, row, number):
    """Whether the things of this join, or telling, were apart ahead of it, by flooding."""
    x, y = row[number][:2]
    return y not in reached(many, [place[:2] for place in row[:number]], x)


def reals(many, row):
    return [number for number in range(len(row)) if is_real(many, row, number)]


def things_on(row, x, road):
    """The things that a road of numbers comes to from x on; fails where it breaks."""
    things = [x]
    for number in road:
        one, other = row[number][:2]
        assert type(number) is int and number >= 0 and things[-1] in (one, other), (row, x, road)
        things.append(other if things[-1] == one else one)
    return things


def all_lots(many):
    """All ways in which many things can lie in lots, each by least things."""
    if many == 0:
        return [[]]
    told = []
    for lots in all_lots(many - 1):
        told.append(lots + [(many - 1,)])
        for at, lot in enumerate(lots):
            told.append(lots[:at] + [lot + (many - 1,)] + lots[at + 1:])
    return told


def random_lots(rng, many):
    """Lots of many things by chance, now coarser, now finer."""
    count = rng.randrange(rng.randrange(1, 2 * many))
    return lots_by_joins(many, random_joins(rng, many, min(count, 60)))


def flood_places(places, starts, reach):
    """All of these places to which steps from starts lead, each of at most reach rows and columns together or,
    where reach is 2, of one row and one column."""
    wet = [place for place in starts if place in places]
    for row, column in wet:
        for below in (-1, 0, 1):
            for beside in (-1, 0, 1):
                next_one = (row + below, column + beside)
                if abs(below) + abs(beside) <= reach and next_one in places and next_one not in wet:
                    wet.append(next_one)
    return wet


def seeps_by_places(high, wide, opened):
    """Whether open spots lead from the first row to the last, by flooding over places (ROW, COLUMN)."""
    places = {divmod(spot, wide) for spot in opened}
    return any([row == high - 1 for row, column in flood_places(places, [(0, at) for at in range(wide)], 1)])


def walled_by_places(high, wide, opened):
    """Whether shut spots lead from the first column to the last, by corners, too."""
    places = {divmod(spot, wide) for spot in range(high * wide) if spot not in opened}
    return any([column == wide - 1 for row, column in flood_places(places, [(at, 0) for at in range(high)], 2)])


def shaped(thing, shape):
    """Whether this, of any kind, is built as the shape: [S] is a tuple of any number of S, (S, ..) one of just these,
    int and str are of just this kind, a function says itself, and all else is just that."""
    if isinstance(shape, list):
        return type(thing) is tuple and all([shaped(part, shape[0]) for part in thing])
    if isinstance(shape, tuple):
        parts = type(thing) is tuple and len(thing) == len(shape)
        return parts and all([shaped(part, inner) for part, inner in zip(thing, shape)])
    if shape in (int, str):
        return type(thing) is shape
    return shape(thing) if callable(shape) else type(thing) is type(shape) and thing == shape


def shaped_deed(thing):
    return shaped(thing, ("find", int)) or shaped(thing, ("join", int, int))


PAIRS, TRIPLES, LOTS = [(int, int)], [(int, int, int)], [[int]]

# Of each word the shapes of all that follows it in the claim, and of the paper.
SHAPES = {
    "one": ((int, PAIRS, int, int), [int]),
    "apart": ((int, PAIRS, int, int), [int]),
    "first": ((int, PAIRS, int, int, int), ([int], [int])),
    "comes": ((str, [int]), PAIRS),
    "never": ((str, [int]), int),
    "steps": ((int, str, str, [shaped_deed], int), None),
    "strikes": ((int, PAIRS, int, int, int), ([int], [[int]])),
    "differ": ((int, int, TRIPLES, int, int, int), PAIRS),
    "fit": ((int, int, TRIPLES), [int]),
    "clash": ((int, int, TRIPLES), PAIRS),
    "together": ((int, LOTS, LOTS, int, int), [int]),
    "not together": ((int, LOTS, LOTS, int, int), [int]),
    "forest": ((int, TRIPLES, int), [int]),
    "through": ((int, int, [int], int), ([int], [int])),
    "shut": ((int, int, [int]), [int]),
}


def all_things(many, *things):
    return 1 <= many <= 40 and set(things) <= set(range(many))


def ends_in(row):
    return [x for place in row for x in place[:2]]


def rising(numbers):
    return list(numbers) == sorted(set(numbers))


def walked(row, x, road):
    """Where one comes by this road; None where it breaks."""
    for number in road:
        if not 0 <= number < len(row) or x not in row[number]:
            return None
        x = sum(row[number]) - x
    return x


def keeps_apart(many, row, x, y, around):
    if not all_things(many, *around) or not rising(around) or x not in around or y in around:
        return False
    return all([set(reached(many, row, inner)) <= set(around) for inner in around])


def model_one(many, row, x, y, road):
    return all_things(many, x, y, *ends_in(row)) and walked(row, x, road) == y


def model_apart(many, row, x, y, around):
    return all_things(many, x, y, *ends_in(row)) and keeps_apart(many, row, x, y, around)


def model_first(many, row, x, y, moment, paper):
    if moment < 1 or not model_one(many, row[:moment], x, y, paper[0]) or not all_things(many, *ends_in(row)):
        return False
    return keeps_apart(many, row[:moment - 1], x, y, paper[1])


def right_forest(join, ups):
    return join in JOINS and len(ups) > 0 and all_things(len(ups), *ups) and comes_to_heads(ups)


def model_comes(join, ups, row):
    if not right_forest(join, ups) or not all_things(len(ups), *ends_in(row)):
        return False
    return model_by(len(ups), row, join).ups == ups


def drop(ups, x):
    return max([0] + [1 + drop(ups, y) for y in range(len(ups)) if ups[y] == x and y != x])


def model_never(join, ups, x):
    if not right_forest(join, ups) or not all_things(len(ups), x):
        return False
    children = [y for y in range(len(ups)) if ups[y] == x and y != x]
    if join == "rank":
        return set(range(drop(ups, x))) != {drop(ups, y) for y in children}
    if join == "size":
        ahead = 0
        for one in sorted([size(ups, y) for y in children]):
            if one > ahead + 1:
                return True
            ahead += one
    return join == "names" and min([x] + children) < x


def model_steps(many, join, short, row, total, paper):
    if join not in JOINS or short not in SHORTS or not all_things(many, *[x for deed in row for x in deed[1:]]):
        return False
    model = Model(many, join, short)
    return sum([model.do(deed)[1] for deed in row]) == total


def model_strikes(many, row, x, y, how, paper):
    strikes, roads = paper
    if not all_things(many, x, y, *ends_in(row)) or not how == len(strikes) == len(roads):
        return False
    if not rising(strikes) or not set(strikes) <= set(range(len(row))):
        return False
    if y in reached(many, [join for number, join in enumerate(row) if number not in strikes], x):
        return False
    numbers = [number for road in roads for number in road]
    return len(numbers) == len(set(numbers)) and all([walked(row, x, road) == y for road in roads])


def right_tellings(many, rest, tellings):
    return all_things(many, *ends_in(tellings)) and (rest == 0 or rest in range(2, 1001))


def same_by(rest, one, other):
    return one == other if rest == 0 else (one - other) % rest == 0


def walked_tellings(tellings, x, road):
    """(THING, SUM) to which this road of tellings leads; None where it breaks."""
    total = 0
    for number, sign in road:
        if not 0 <= number < len(tellings) or sign not in (1, -1) or tellings[number][:2][::sign][0] != x:
            return None
        x = tellings[number][:2][::sign][1]
        total += sign * tellings[number][2]
    return x, total


def model_differ(many, rest, tellings, x, y, more, road):
    if not right_tellings(many, rest, tellings) or not all_things(many, x, y):
        return False
    told = walked_tellings(tellings, x, road)
    if told is None or (rest > 0 and more not in range(rest)):
        return False
    return told[0] == y and same_by(rest, told[1], more)


def model_fit(many, rest, tellings, numbers):
    if not right_tellings(many, rest, tellings) or len(numbers) != many:
        return False
    return all([same_by(rest, numbers[x] + more, numbers[y]) for x, y, more in tellings])


def model_clash(many, rest, tellings, road):
    if not right_tellings(many, rest, tellings):
        return False
    told = [(x, walked_tellings(tellings, x, road)) for x in range(many)]
    return any([found is not None and found[0] == x and not same_by(rest, found[1], 0) for x, found in told])


def right_lots(many, *both):
    for told in both:
        things = [x for lot in told for x in lot]
        if not all_things(many, *things) or sorted(things) != list(range(many)):
            return False
        if not all([lot and rising(lot) for lot in told]) or list(told) != sorted(told):
            return False
    return True


def model_together(many, one, other, x, y, chain):
    if not right_lots(many, one, other) or not all_things(many, x, y, *chain) or not chain:
        return False
    links = [[lot for lot in one + other if {here, there} <= set(lot)] for here, there in zip(chain, chain[1:])]
    return all(links) and (chain[0], chain[-1]) == (x, y)


def model_not_together(many, one, other, x, y, around):
    if not right_lots(many, one, other) or not all_things(many, x, y, *around) or not rising(around):
        return False
    parts = [set(lot) & set(around) in (set(), set(lot)) for lot in one + other]
    return x in around and y not in around and all(parts)


def heaviest_on_road(many, ties, x, y):
    """The greatest weight on the one road from x to y by ties that make no ring; None where there is no road."""
    waiting = [(x, None, -1)]
    for at, ahead, most in waiting:
        if at == y:
            return most
        for one, other, by in ties:
            for here, there in ((one, other), (other, one)):
                if here == at and there != ahead:
                    waiting.append((there, at, max(most, by)))
    return None


def model_forest(many, ties, worth, chosen):
    if not all_things(many, *ends_in(ties)) or min([0] + [by for x, y, by in ties]) < 0:
        return False
    if not rising(chosen) or not set(chosen) <= set(range(len(ties))):
        return False
    taken = [ties[number] for number in chosen]
    lots_told = lots_by_joins(many, [tie[:2] for tie in taken])
    # So many ties for so many pieces: then no tie is needless.
    if lots_told != lots_by_joins(many, [tie[:2] for tie in ties]) or len(chosen) != many - len(lots_told):
        return False
    others = [ties[number] for number in range(len(ties)) if number not in chosen]
    return worth == sum([by for x, y, by in taken]) and all(
        [by >= heaviest_on_road(many, taken, x, y) for x, y, by in others])


def right_spots(high, wide, row):
    return (high, wide) in SIDES and set(row) <= set(range(high * wide))


def is_line(spots, wide, reach, axis, last):
    """Unlike spots with steps of this reach, from the first row or column, by axis, to the last one."""
    places = [divmod(spot, wide) for spot in spots]
    if not places or len(set(spots)) != len(spots) or (places[0][axis], places[-1][axis]) != (0, last):
        return False
    return all([(row - below) ** 2 + (column - beside) ** 2 <= reach
                for (row, column), (below, beside) in zip(places, places[1:])])


def model_shut(high, wide, row, wall):
    if not right_spots(high, wide, row) or not set(wall) <= set(range(high * wide)) - set(row):
        return False
    return is_line(wall, wide, 2, 1, wide - 1)


def model_through(high, wide, row, moment, paper):
    if moment < 1 or not right_spots(high, wide, row) or not model_shut(high, wide, row[:moment - 1], paper[1]):
        return False
    return set(paper[0]) <= set(row[:moment]) and is_line(paper[0], wide, 1, 0, high - 1)


MODELS = {
    "one": model_one, "apart": model_apart, "first": model_first, "comes": model_comes, "never": model_never,
    "steps": model_steps, "strikes": model_strikes, "differ": model_differ, "fit": model_fit, "clash": model_clash,
    "together": model_together, "not together": model_not_together, "forest": model_forest,
    "through": model_through, "shut": model_shut,
}


def holds_by_words(claim, paper):
    """What the checker should tell of things of any kind, written from the document's words."""
    if type(claim) is not tuple or not claim or type(claim[0]) is not str or claim[0] not in SHAPES:
        return False
    shape, paper_shape = SHAPES[claim[0]]
    if not shaped(claim[1:], shape) or not shaped(paper, paper_shape):
        return False
    return bool(MODELS[claim[0]](*claim[1:], paper))


def places_in(thing):
    """The ways to all parts of a tuple, at any depth, as tuples of numbers; () to itself."""
    ways = [()]
    if type(thing) is tuple:
        for at, part in enumerate(thing):
            ways += [(at, *way_on) for way_on in places_in(part)]
    return ways


def part_at(thing, way_to):
    for at in way_to:
        thing = thing[at]
    return thing


def bent_at(thing, way_to, part):
    """The same with another part there."""
    if not way_to:
        return part
    return with_place(thing, way_to[0], bent_at(thing[way_to[0]], way_to[1:], part))


def bends_of(part):
    """What may stand there instead of it: others of its kind near it, and what only looks like it."""
    if type(part) is tuple:
        bends = [list(part), (part,), part + (0,), part + part, part[::-1], (), None, dict(enumerate(part))]
        bends += [part[:at] + part[at + 1:] for at in range(len(part))]
        bends += [part[:at] + part[at:at + 1] + part[at:] for at in range(len(part))]
        return bends
    if type(part) is int:
        return [part + 1, part - 1, -part, part + 2, part - 40, 0, 1, 2, 10 ** 9, bool(part), str(part), None, (part,),
                [part], b"1"]
    if type(part) is str:
        return [part.upper(), part + " ", part[:-1], part.encode(), (part,), None, 0, "one", "size", "none", "find"]
    return [0, (), False, "", [], {}, (None,)]


def all_bends(thing):
    """The thing with each part, at any depth, bent in each way."""
    return [bent_at(thing, way_to, part) for way_to in places_in(thing) for part in bends_of(part_at(thing, way_to))]


def plain(told):
    """Whether all that is told is ints that are no truths, truths, texts, None, lists and tuples of these."""
    if type(told) in (list, tuple):
        return all([plain(inner) for inner in told])
    return told is None or type(told) in (int, bool, str)


class Case(unittest.TestCase):
    def told(self, expected, function, *arguments):
        """Asks twice, and spoils each list told first: it must be told anew, of arguments that stay."""
        kept = copy.deepcopy(arguments)
        first = function(*arguments)
        self.same(expected, first)
        spoil(first)
        self.assertEqual(kept, arguments)
        self.same(expected, function(*arguments))
        self.assertEqual(kept, arguments)

    def same(self, expected, told):
        self.assertEqual(expected, told)
        # To Python True equals 1, so the kinds are held together, too.
        self.assertEqual(repr(expected), repr(told))

    def check_real_road(self, many, row, x, y, road):
        """It leads from x to y by real joins and comes to no thing twice."""
        self.assertIs(tuple, type(road))
        gone = things_on(row, x, road)
        self.assertEqual(y, gone[-1])
        self.assertEqual(len(gone), len(set(gone)))
        self.assertEqual([], [number for number in road if not is_real(many, row, number)])

    def refused(self, kind, function, *arguments):
        """Asks for just this class of refusal, arguments unchanged, and gives the error."""
        kept = copy.deepcopy(arguments)
        try:
            told = function(*arguments)
        except ValueError as error:
            self.assertEqual(kind.__name__, type(error).__name__)
            self.assertIs(kind, type(error))
            self.assertEqual(kept, arguments)
            return error
        self.fail(f"{function.__name__}{arguments!r} told {told!r}, not {kind.__name__}")

    def refused_at(self, number, kind, function, *arguments):
        error = self.refused(kind, function, *arguments)
        self.assertEqual(repr(number), repr(error.number))


def spoil(told):
    if isinstance(told, (list, tuple)):
        for inner in told:
            spoil(inner)
    if isinstance(told, list):
        told.reverse()
        told.append("spoilt")
