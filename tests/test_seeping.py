"""Seeping: promise 27, 26 on which it rests, and 2, 3, 7, 14, 17 and 22 as far as they go for it."""

import random

from lotheads.boards import pieces_of
from lotheads.errors import NoBoard, NoDeed
from lotheads.lattice import chain, together
from lotheads.moments import first_moment, lots_at
from lotheads.seeping import seeps
from lotheads.strikes import least_strikes
from tests import helper
from tests.helper import SIDES, Case


def many_rows(seed):
    """(HIGH, WIDE, ROW): of all sides rows by chance, of no spots, of sixty, of all spots, of some opened twice."""
    rng = random.Random(seed)
    every = []
    for high, wide in SIDES:
        spots = list(range(high * wide))
        row = tuple(rng.sample(spots, len(spots)))
        every += [(high, wide, ()), (high, wide, row), (high, wide, row[:len(row) // 2])]
        every.append((high, wide, tuple([rng.choice(spots) for turn in range(60)])))
        twice = row[:len(row) * 2 // 3]
        every.append((high, wide, tuple([spot for spot in twice for turn in range(2)])[:60]))
    return every


EVERY = many_rows(71)


def neighbour_joins(many, wide, spots):
    """All joins of these spots that are beside, above or below each other."""
    pairs = [(at, at + 1) for at in range(many) if at % wide < wide - 1]
    pairs += [(at, at + wide) for at in range(many - wide)]
    return tuple([(one, other) for one, other in pairs if one in spots and other in spots])


def opening_joins(many, wide, row):
    """The joins with open neighbours, spot for spot as the row opens them, each with the moment of its spot."""
    joins = []
    for at, spot in enumerate(row):
        if spot not in row[:at]:
            opened = row[:at + 1]
            joins += [(join, at + 1) for join in neighbour_joins(many, wide, opened) if spot in join]
    return joins


class SeepingCase(Case):
    def check(self, high, wide, row):
        """What is told is right by floods over places; gives MOMENT, None for shut."""
        told = seeps(high, wide, row)
        self.told(told, seeps, high, wide, row)
        self.assertTrue(helper.plain(told))
        self.assertIs(tuple, type(told))
        firsts = [at for at in range(1, len(row) + 1) if helper.seeps_by_places(high, wide, row[:at])]
        if not firsts:
            self.same("shut", told[0])
            self.assertEqual(2, len(told))
            self.check_wall(high, wide, row, told[1])
            return None
        word, moment, road, wall = told
        self.same("through", word)
        self.same(firsts[0], moment)
        self.check_road(high, wide, row[:moment], road)
        self.check_wall(high, wide, row[:moment - 1], wall)
        return moment

    def check_road(self, high, wide, opened, road):
        self.assertIs(tuple, type(road))
        self.assertEqual(len(road), len(set(road)))
        self.assertLessEqual(set(road), set(opened))
        places = [divmod(spot, wide) for spot in road]
        self.assertEqual([0, high - 1], [places[0][0], places[-1][0]])
        for (row, column), (below, beside) in zip(places, places[1:]):
            self.assertEqual(1, abs(row - below) + abs(column - beside))

    def check_wall(self, high, wide, opened, wall):
        self.assertIs(tuple, type(wall))
        self.assertEqual(len(wall), len(set(wall)))
        self.assertEqual(set(), set(wall) & set(opened))
        self.assertLessEqual(set(wall), set(range(high * wide)))
        places = [divmod(spot, wide) for spot in wall]
        self.assertEqual([0, wide - 1], [places[0][1], places[-1][1]])
        for (row, column), (below, beside) in zip(places, places[1:]):
            self.assertEqual(1, max(abs(row - below), abs(column - beside)))


class Seeping(SeepingCase):
    def test_one_spot(self):
        self.told(("shut", (0,)), seeps, 1, 1, ())
        for count in (1, 2, 60):
            self.told(("through", 1, (0,), (0,)), seeps, 1, 1, (0,) * count)

    def test_one_row_of_forty_spots(self):
        self.told(("shut", tuple(range(40))), seeps, 1, 40, ())
        for spot in (0, 17, 39):
            self.told(("through", 1, (spot,), tuple(range(40))), seeps, 1, 40, (spot, 5, 39))

    def test_forty_rows_of_one_spot(self):
        self.same("shut", seeps(40, 1, ())[0])
        self.assertEqual(1, len(seeps(40, 1, ())[1]))
        rng = random.Random(72)
        for turn in range(5):
            row = tuple(rng.sample(range(40), 40))
            self.told(("through", 40, tuple(range(40)), (row[-1],)), seeps, 40, 1, row)
            self.told(("through", 60, tuple(range(40)), (row[-1],)), seeps, 40, 1, row[:20] + row[:-1] + row[-1:])
            self.told(("shut", (row[-1],)), seeps, 40, 1, row[:-1])
            self.told(("shut", (row[-1],)), seeps, 40, 1, row[:-1] + row[:21])

    def test_a_road_by_hand(self):
        for row in ((1, 4, 7), (1, 4, 1, 7), (1, 7, 7, 4, 4), (7, 4, 1, 0)):
            moment = max([row.index(spot) for spot in (1, 4, 7)]) + 1
            self.same(moment, self.check(3, 3, row))
            self.same((1, 4, 7), seeps(3, 3, row)[2])
        self.same(2, self.check(2, 2, (1, 3, 0, 2)))
        self.same((1, 3), seeps(2, 2, (1, 3, 0, 2))[2])

    def test_corner_to_corner_is_no_road(self):
        self.told(("shut", (2, 1)), seeps, 2, 2, (0, 3))
        self.told(("shut", (0, 3)), seeps, 2, 2, (1, 2))
        self.told(("shut", (6, 4, 2)), seeps, 3, 3, (0, 1, 3, 5, 7, 8))
        self.assertIsNone(self.check(5, 5, (0, 6, 12, 18, 24, 4, 8, 16, 20)))

    def test_a_wall_by_corners_alone(self):
        # What is shut lies like the spots of one hue on a board for a game.
        for high, wide in ((2, 2), (3, 3), (5, 8), (8, 5), (6, 6), (4, 10)):
            hue = [spot for spot in range(high * wide) if (spot // wide + spot % wide) % 2 == 0]
            self.assertIsNone(self.check(high, wide, tuple(hue)))
            wall = seeps(high, wide, tuple(hue))[1]
            self.assertTrue(all([abs(one - other) in (wide - 1, wide + 1) for one, other in zip(wall, wall[1:])]))

    def test_the_end_of_a_row_is_beside_nothing_of_the_next(self):
        # 2 and 3, 5 and 6 have numbers side by side, but lie at the two sides of the board.
        self.assertIsNone(self.check(3, 3, (2, 3, 5, 6)))
        self.assertIsNone(self.check(2, 3, (2, 3)))
        self.assertEqual(4, self.check(3, 3, (0, 1, 3, 6)))
        # No wall goes round the side either: 1, 2, 3 and 4 alone are shut.
        self.assertEqual(("through", 2), seeps(2, 3, (0, 3, 5))[:2])
        self.assertEqual(4, self.check(4, 3, (1, 4, 7, 10, 0)))

    def test_a_road_that_winds(self):
        # It comes down, goes up again beside itself, and then down to the last row.
        winding = (0, 7, 14, 21, 22, 23, 16, 9, 10, 11, 18, 25, 32)
        for order in (winding, winding[::-1]):
            self.assertEqual(13, self.check(5, 7, order))
            self.same(winding, seeps(5, 7, order)[2])
        snake = (3, 7, 11, 10, 9, 8, 12, 16, 17, 18, 19, 23, 27, 26, 25, 24, 28, 32, 33, 34, 35, 39)
        self.assertEqual(len(snake) + 1, self.check(10, 4, snake[1:] + snake[1:2] + snake[:1]))
        self.same(snake, seeps(10, 4, snake)[2])

    def test_a_wall_that_winds(self):
        # Up, far down and up again, now by corners and now not, with no spot that could be left out.
        wall = (6, 1, 8, 14, 20, 27, 22, 16, 11)
        self.told(("shut", wall), seeps, 5, 6, tuple([spot for spot in range(30) if spot not in wall]))
        wall = (25, 21, 17, 12, 8, 4)
        self.told(("shut", wall), seeps, 6, 5, tuple([spot for spot in range(30) if spot not in wall]))

    def test_through_at_the_first_spot_and_at_the_last(self):
        for high, wide in SIDES:
            spots = list(range(high * wide))
            column = spots[wide // 2::wide]
            for order in (column, column[::-1]):
                self.assertEqual(high, self.check(high, wide, tuple(order)))
                self.assertEqual(high, self.check(high, wide, tuple(order) + (0, 0)))
            if high == 1:
                self.assertEqual(1, self.check(high, wide, tuple(spots)))
            late = [spot for spot in spots if spot // wide != high - 1]
            self.assertEqual(len(late) + 1, self.check(high, wide, tuple(late + [high * wide - 1])))

    def test_a_spot_that_is_opened_again_changes_nothing(self):
        self.assertIsNone(self.check(3, 3, (1, 7, 7, 1, 1)))
        self.same(6, self.check(3, 3, (1, 7, 7, 1, 1, 4)))

    def test_no_spots_and_all(self):
        for high, wide in SIDES:
            self.assertIsNone(self.check(high, wide, ()))
            self.assertIsNotNone(self.check(high, wide, tuple(range(high * wide))))
            self.assertIsNotNone(self.check(high, wide, tuple(range(high * wide))[::-1]))

    def test_many_rows(self):
        words = [seeps(*case)[0] for case in EVERY]
        self.assertGreater(words.count("shut"), 50)
        self.assertGreater(words.count("through"), 50)
        for high, wide, row in EVERY:
            self.check(high, wide, row)

    def test_at_each_moment_there_is_just_one_of_both(self):
        for high, wide, row in EVERY[::7]:
            told = seeps(high, wide, row)
            last = told[1] if told[0] == "through" else len(row) + 1
            for moment in range(len(row) + 1):
                now = seeps(high, wide, row[:moment])
                self.assertEqual("through" if moment >= last else "shut", now[0])
                self.assertEqual(helper.seeps_by_places(high, wide, row[:moment]), now[0] == "through")
                self.assertEqual(helper.walled_by_places(high, wide, row[:moment]), now[0] == "shut")

    def test_boards_mirrored(self):
        for high, wide, row in EVERY:
            told = seeps(high, wide, row)
            for side, top in ((True, False), (False, True), (True, True)):
                mirrored = tuple([self.mirror(high, wide, spot, side, top) for spot in row])
                again = seeps(high, wide, mirrored)
                self.assertEqual(told[:-2] if told[0] == "through" else "shut",
                                 again[:-2] if again[0] == "through" else "shut")

    def mirror(self, high, wide, spot, side, top):
        at, column = divmod(spot, wide)
        return (high - 1 - at if top else at) * wide + (wide - 1 - column if side else column)

    def test_rows_for_columns(self):
        for high, wide, row in EVERY:
            turned = tuple([spot % wide * high + spot // wide for spot in row])
            self.check(wide, high, turned)
        # A road down is none across: rows and columns are not alike.
        self.assertEqual(3, self.check(3, 2, (0, 2, 4)))
        self.assertIsNone(self.check(2, 3, (0, 1, 2)))

    def test_told_tuples_are_the_askers_own(self):
        row = (0,)
        told = seeps(1, 1, row)
        self.assertIsNot(row, told[2])
        self.assertIsNot(row, told[3])


class BesideTheOthers(Case):
    def test_pieces_of_a_board(self):
        for high, wide, row in EVERY:
            letters = "".join(["o" if spot in row else "s" for spot in range(high * wide)])
            board = tuple([letters[at:at + wide] for at in range(0, high * wide, wide)])
            leads = [spots for letter, spots in pieces_of(board) if letter == "o"
                     and spots[0] < wide and spots[-1] >= (high - 1) * wide]
            self.assertEqual(len(leads) > 0, seeps(high, wide, row)[0] == "through")

    def test_lots_and_lots_together(self):
        for high, wide, row in EVERY:
            many = high * wide
            joins = neighbour_joins(many, wide, row)
            lots = lots_at(many, joins, len(joins))
            beside = helper.lots_by_joins(many, [join for join in joins if join[0] + 1 == join[1] and wide > 1])
            above = helper.lots_by_joins(many, [join for join in joins if join[0] + wide == join[1]])
            self.same(lots, together(many, beside, above))
            told = seeps(high, wide, row)
            leads = [lot for lot in lots if lot[0] in row and lot[0] < wide and lot[-1] >= (high - 1) * wide]
            self.assertEqual(len(leads) > 0, told[0] == "through")
            if told[0] == "through":
                self.assertIsNotNone(chain(many, beside, above, told[2][0], told[2][-1]))

    def test_first_moments(self):
        for high, wide, row in EVERY[::3]:
            many = high * wide
            opening = opening_joins(many, wide, row)
            joins = tuple([join for join, moment in opening])
            told = seeps(high, wide, row)
            moments = [self.moment_of_two(many, row, joins, opening, x, y)
                       for x in range(wide) for y in range(many - wide, many) if x in row and y in row]
            first = min([moment for moment in moments if moment is not None], default=None)
            self.assertEqual(first, told[1] if told[0] == "through" else None)

    def moment_of_two(self, many, row, joins, opening, x, y):
        if x == y:
            return row.index(x) + 1
        told = first_moment(many, joins, x, y)
        return opening[told[1] - 1][1] if told[0] == "one" else None

    def test_strikes(self):
        for high, wide, row in EVERY[::3]:
            told = seeps(high, wide, row)
            if told[0] == "shut" or high == 1:
                continue
            many = high * wide
            word, moment, road, wall = told
            joins = neighbour_joins(many, wide, row[:moment])
            strikes, roads = least_strikes(many, joins, road[0], road[-1])
            self.assertGreaterEqual(len(strikes), 1)
            # The last spot alone led through: all roads go by its joins.
            ahead = neighbour_joins(many, wide, row[:moment - 1])
            self.same(((), ()), least_strikes(many, ahead, road[0], road[-1]))
            for laid in roads:
                self.assertTrue(any([row[moment - 1] in joins[number] for number in laid]))


class Refusals(Case):
    def test_no_sides_of_any_kind(self):
        more = [0, 41, 42, "1", (), (1,), [1], (1, 1)]
        for wrong in helper.wrong_things() + helper.deep_things(12) + more:
            for row in ((), (0,), (0, 0, 0)):
                self.refused(NoBoard, seeps, wrong, 1, row)
                self.refused(NoBoard, seeps, 1, wrong, row)
                self.refused(NoBoard, seeps, wrong, wrong, row)

    def test_more_than_forty_spots(self):
        for high in range(1, 43):
            for wide in range(1, 43):
                if high * wide > 40:
                    self.refused(NoBoard, seeps, high, wide, ())
                else:
                    self.same("shut", seeps(high, wide, ())[0])
        for high, wide in ((-1, -1), (-5, -8), (0, 40), (40, 0), (0, 0), (-1, 5), (2, -3), (10 ** 9, 10 ** 9)):
            self.refused(NoBoard, seeps, high, wide, (0,))

    def test_no_row_of_any_kind(self):
        for wrong in helper.wrong_rows() + helper.deep_things(12)[1:3] + [[0], [0, 1], {0}, 0, "0", range(4)]:
            self.refused_at(None, NoDeed, seeps, 2, 3, wrong)
            self.refused_at(None, NoDeed, seeps, 1, 40, wrong)

    def test_no_spot_at_each_place_of_a_row(self):
        row = (0, 5, 3, 3, 1)
        for wrong in helper.wrong_things() + [6, 7, 40, "1", (), (0,), [1], (0, 1), ("find", 0)]:
            for number in range(len(row)):
                self.refused_at(number, NoDeed, seeps, 2, 3, helper.with_place(row, number, wrong))
                self.refused_at(number, NoDeed, seeps, 2, 3, helper.with_place(row, number, wrong) + (None, 6))
            self.refused_at(59, NoDeed, seeps, 2, 3, (0,) * 59 + (wrong,))

    def test_no_spot_behind_the_moment_counts_too(self):
        self.refused_at(2, NoDeed, seeps, 2, 3, (0, 3, 6))
        self.refused_at(1, NoDeed, seeps, 1, 1, (0, True))
        self.refused_at(1, NoDeed, seeps, 1, 1, (0, 1))
        self.refused_at(0, NoDeed, seeps, 1, 1, (False,))

    def test_their_order(self):
        for wrong in helper.wrong_things() + [0, 41]:
            for row in (None, [0], (9, "a"), (True,), wrong):
                self.refused(NoBoard, seeps, wrong, 3, row)
                self.refused(NoBoard, seeps, 3, wrong, row)
                self.refused(NoBoard, seeps, wrong, wrong, row)
