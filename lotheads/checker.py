"""The checker: whether a paper shows a claim. It seeks nothing, and rests on forests, finds, stores and deeds alone.

Each function that a word is checked by takes a claim with as many parts as the word asks for, and its paper; all else
in both may be of any kind.
"""

from lotheads.deeds import by_rest, comes_to, is_deed, is_pair, is_rest, is_telling, is_tie, run
from lotheads.finds import is_short
from lotheads.forests import are_lots, are_sides, is_forest, is_many, is_rising, is_thing, is_whole, sizes_in, way_up
from lotheads.stores import is_way_of_joining, new_store


def is_row(many, thing, is_right):
    return isinstance(thing, tuple) and all([is_right(many, place) for place in thing])


def is_two_papers(thing):
    return isinstance(thing, tuple) and len(thing) == 2


def are_two_things(many, x, y):
    return is_thing(many, x) and is_thing(many, y)


def is_count(row, thing):
    """Whether this, of any kind, says how many of the row were done, one at least."""
    return is_whole(thing) and 1 <= thing <= len(row)


def are_unlike(numbers):
    return all([numbers.count(number) == 1 for number in numbers])


def with_joins(many, join, joins):
    """The forest behind these joins, and the list of which of them were real."""
    store, answers, steps = run(new_store(many, join, "none"), tuple([("join", x, y) for x, y in joins]))
    return store[2], answers


def are_together(many, joins, x, y):
    ups, answers = with_joins(many, "size", joins)
    return way_up(ups, x)[-1] == way_up(ups, y)[-1]


def end_of_road(row, x, road):
    """Where one comes from x by these numbers of joins; None where one can't go on."""
    at = x
    for number in road:
        one, other = row[number]
        if at not in (one, other):
            return None
        at = other if at == one else one
    return at


def is_road(row, x, y, thing):
    return is_row(len(row), thing, is_thing) and end_of_road(row, x, thing) == y


def sets_apart(many, joins, x, y, thing):
    """Whether this, of any kind, holds x and not y, and of each join both things or none."""
    if not is_rising(many, thing) or x not in thing or y in thing:
        return False
    return all([(one in thing) == (other in thing) for one, other in joins])


def are_row_and_things(many, row, x, y):
    return is_many(many) and is_row(many, row, is_pair) and are_two_things(many, x, y)


def shows_one(claim, paper):
    word, many, row, x, y = claim
    return are_row_and_things(many, row, x, y) and is_road(row, x, y, paper)


def shows_apart(claim, paper):
    word, many, row, x, y = claim
    return are_row_and_things(many, row, x, y) and sets_apart(many, row, x, y, paper)


def shows_first(claim, paper):
    word, many, row, x, y, moment = claim
    if not are_row_and_things(many, row, x, y) or not is_count(row, moment) or not is_two_papers(paper):
        return False
    road, around = paper
    return is_road(row[:moment], x, y, road) and sets_apart(many, row[:moment - 1], x, y, around)


def shows_comes(claim, paper):
    word, join, ups = claim
    if not is_way_of_joining(join) or not is_forest(ups) or not is_row(len(ups), paper, is_pair):
        return False
    return with_joins(len(ups), join, paper)[0] == ups


def steps_below(ups, x):
    """How many steps lead down from x to the farthest thing under it."""
    ways = [way_up(ups, y) for y in range(len(ups))]
    return max([way.index(x) for way in ways if x in way])


def can_come_at(join, ups, x):
    children = [y for y in range(len(ups)) if ups[y] == x and y != x]
    if join == "size":
        sizes = sorted([sizes_in(ups)[y] for y in children])
        return all([size <= sum(sizes[:at]) + 1 for at, size in enumerate(sizes)])
    if join == "rank":
        below = [steps_below(ups, y) for y in children]
        return all([steps in below for steps in range(steps_below(ups, x))])
    return join == "told" or all([y > x for y in children])


def shows_never(claim, paper):
    word, join, ups = claim
    if not is_way_of_joining(join) or not is_forest(ups) or not is_thing(len(ups), paper):
        return False
    return not can_come_at(join, ups, paper)


def shows_steps(claim, paper):
    word, many, join, short, row, total = claim
    if not is_many(many) or not is_way_of_joining(join) or not is_short(short):
        return False
    if not is_row(many, row, is_deed) or not is_whole(total) or paper is not None:
        return False
    return sum(run(new_store(many, join, short), row)[2]) == total


def are_strikes(many, row, x, y, thing):
    if not is_rising(len(row), thing):
        return False
    others = [join for number, join in enumerate(row) if number not in thing]
    return not are_together(many, others, x, y)


def are_roads_beside(row, x, y, thing):
    """Whether this, of any kind, is a tuple of roads, with no join in two of them or twice in one."""
    if not isinstance(thing, tuple) or not all([is_road(row, x, y, road) for road in thing]):
        return False
    return are_unlike([number for road in thing for number in road])


def shows_strikes(claim, paper):
    word, many, row, x, y, how = claim
    if not are_row_and_things(many, row, x, y) or not is_whole(how) or not is_two_papers(paper):
        return False
    strikes, roads = paper
    if not are_strikes(many, row, x, y, strikes) or not are_roads_beside(row, x, y, roads):
        return False
    return how == len(strikes) and how == len(roads)


def are_rest_and_tellings(many, rest, tellings):
    return is_many(many) and is_rest(rest) and is_row(many, tellings, is_telling)


def is_gone_telling(many, thing):
    """Whether this, of any kind, is (N, SIGN) of many tellings."""
    if not isinstance(thing, tuple) or len(thing) != 2:
        return False
    return is_thing(many, thing[0]) and is_whole(thing[1]) and thing[1] in (1, -1)


def is_road_of_tellings(tellings, thing):
    return is_row(len(tellings), thing, is_gone_telling)


def ends_of(tellings, gone):
    number, sign = gone
    one, other, more = tellings[number]
    return (one, other) if sign == 1 else (other, one)


def end_of_tellings(tellings, x, road):
    """Where one comes from x by this road of tellings; None where one can't go on."""
    at = x
    for gone in road:
        start, end = ends_of(tellings, gone)
        if at != start:
            return None
        at = end
    return at


def shows_differ(claim, paper):
    word, many, rest, tellings, x, y, more = claim
    if not are_rest_and_tellings(many, rest, tellings) or not are_two_things(many, x, y):
        return False
    if not is_whole(more) or not is_road_of_tellings(tellings, paper):
        return False
    return end_of_tellings(tellings, x, paper) == y and comes_to(rest, tellings, paper) == more


def shows_fit(claim, paper):
    word, many, rest, tellings = claim
    if not are_rest_and_tellings(many, rest, tellings):
        return False
    if not isinstance(paper, tuple) or len(paper) != many or not all([is_whole(number) for number in paper]):
        return False
    return all([by_rest(rest, paper[y] - paper[x] - more) == 0 for x, y, more in tellings])


def shows_clash(claim, paper):
    word, many, rest, tellings = claim
    if not are_rest_and_tellings(many, rest, tellings) or not is_road_of_tellings(tellings, paper) or len(paper) == 0:
        return False
    start = ends_of(tellings, paper[0])[0]
    return end_of_tellings(tellings, start, paper) == start and comes_to(rest, tellings, paper) != 0


def are_lots_and_things(many, one, other, x, y):
    # Elsewhere lots may be lists, too; in claims all is tuples.
    if not is_many(many) or not isinstance(one, tuple) or not isinstance(other, tuple):
        return False
    return are_lots(many, one) and are_lots(many, other) and are_two_things(many, x, y)


def shows_together(claim, paper):
    word, many, one, other, x, y = claim
    if not are_lots_and_things(many, one, other, x, y) or not is_row(many, paper, is_thing) or len(paper) == 0:
        return False
    links = [any([here in lot and there in lot for lot in one + other]) for here, there in zip(paper, paper[1:])]
    return paper[0] == x and paper[-1] == y and all(links)


def shows_not_together(claim, paper):
    word, many, one, other, x, y = claim
    if not are_lots_and_things(many, one, other, x, y):
        return False
    return sets_apart(many, [(lot[0], thing) for lot in one + other for thing in lot], x, y, paper)


def is_no_less(many, chosen, tie):
    """Whether a tie weighs no less than any on the road by the chosen ones between its ends."""
    x, y, weight = tie
    return are_together(many, [(one, other) for one, other, by in chosen if by <= weight], x, y)


def shows_forest(claim, paper):
    word, many, ties, worth = claim
    if not is_many(many) or not is_row(many, ties, is_tie) or not is_whole(worth) or not is_rising(len(ties), paper):
        return False
    chosen = [ties[number] for number in paper]
    ups, reals = with_joins(many, "size", [(x, y) for x, y, weight in chosen])
    # A tie that left nothing to join is needless; of the chosen ones each weighs no less than itself.
    if worth != sum([weight for x, y, weight in chosen]) or not all(reals):
        return False
    return all([is_no_less(many, chosen, tie) for tie in ties])


def are_sides_and_spots(high, wide, row):
    return are_sides(high, wide) and is_row(high * wide, row, is_thing)


def are_unlike_spots(many, thing):
    return is_row(many, thing, is_thing) and len(thing) > 0 and are_unlike(thing)


def how_far(wide, one, other):
    """How many rows, and how many columns, the one spot is away from the other."""
    return abs(one // wide - other // wide), abs(one % wide - other % wide)


def is_open_road(high, wide, row, thing):
    if not are_unlike_spots(high * wide, thing) or not all([spot in row for spot in thing]):
        return False
    if thing[0] // wide != 0 or thing[-1] // wide != high - 1:
        return False
    return all([sum(how_far(wide, one, other)) == 1 for one, other in zip(thing, thing[1:])])


def is_wall(high, wide, row, thing):
    if not are_unlike_spots(high * wide, thing) or any([spot in row for spot in thing]):
        return False
    if thing[0] % wide != 0 or thing[-1] % wide != wide - 1:
        return False
    return all([max(how_far(wide, one, other)) == 1 for one, other in zip(thing, thing[1:])])


def shows_through(claim, paper):
    word, high, wide, row, moment = claim
    if not are_sides_and_spots(high, wide, row) or not is_count(row, moment) or not is_two_papers(paper):
        return False
    road, wall = paper
    return is_open_road(high, wide, row[:moment], road) and is_wall(high, wide, row[:moment - 1], wall)


def shows_shut(claim, paper):
    word, high, wide, row = claim
    return are_sides_and_spots(high, wide, row) and is_wall(high, wide, row, paper)


CHECKS = {
    "one": shows_one,
    "apart": shows_apart,
    "first": shows_first,
    "comes": shows_comes,
    "never": shows_never,
    "steps": shows_steps,
    "strikes": shows_strikes,
    "differ": shows_differ,
    "fit": shows_fit,
    "clash": shows_clash,
    "together": shows_together,
    "not together": shows_not_together,
    "forest": shows_forest,
    "through": shows_through,
    "shut": shows_shut,
}

# How many parts a claim has, its word among them.
PARTS = {
    "one": 5,
    "apart": 5,
    "first": 6,
    "comes": 3,
    "never": 3,
    "steps": 6,
    "strikes": 6,
    "differ": 7,
    "fit": 4,
    "clash": 4,
    "together": 6,
    "not together": 6,
    "forest": 4,
    "through": 5,
    "shut": 4,
}


def holds(claim, paper):
    if not isinstance(claim, tuple) or len(claim) == 0 or not isinstance(claim[0], str):
        return False
    word = claim[0]
    if PARTS.get(word) != len(claim):
        return False
    check = CHECKS[word]
    return check(claim, paper)
