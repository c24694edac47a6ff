"""Boards: promise 26, and 2 as far as it goes for them."""

import random

from lotheads.boards import is_board, pieces_of
from lotheads.errors import NoBoard
from tests import helper
from tests.helper import SIDES, Case


def wrong_boards():
    """What is no board, of any kind."""
    texts = ["A", "0", " ", "a ", " a", "aB", "a1", "a\n", "-", "_", "~", "`", "{", "@", "[", "a" * 41, "a" * 42]
    wrong = [(text,) for text in texts] + [("a", text) for text in texts] + [(text, "a") for text in texts]
    wrong += [("aa", "a"), ("a", "aa"), ("ab", "ab", "a"), ("", "a"), ("a", ""), ("",), ("", ""), ()]
    wrong += [("a",) * 41, ("aa",) * 21, ("a" * 7,) * 6, ("a" * 20, "a" * 21), ("",) * 40, ("a" * 20,) * 2 + ("",)]
    wrong += [["a"], ["ab", "cd"], {"a": "b"}, {"a"}, "a", "ab", b"a", (b"a",), (b"ab", b"cd"), ("a", b"a")]
    for inner in (None, True, False, 0, 1, 97, (), ("a",), ["a"], {}, {"a": 1}, frozenset("a"), len):
        wrong += [(inner,), ("a", inner), (inner, "a")]
    wrong += [(deep,) for deep in helper.deep_things(9)] + [("a", deep) for deep in helper.deep_things(9)]
    # A tuple of one of the other words is a board.
    others = [thing for thing in helper.wrong_things() if thing not in (("none",), ("size",))]
    return wrong + others + helper.deep_things(12) + [0, 1, 40]


def random_board(rng, high, wide):
    letters = rng.choice(["a", "ab", "ab", "abc", "az", "abcdefghijklmnopqrstuvwxyz"])
    return tuple(["".join([rng.choice(letters) for column in range(wide)]) for row in range(high)])


def pieces_by_places(board):
    """The pieces by flooding over places (ROW, COLUMN)."""
    wide = len(board[0])
    places = [(row, column) for row in range(len(board)) for column in range(wide)]
    pieces = []
    seen = set()
    for place in places:
        if place in seen:
            continue
        wet = [place]
        for row, column in wet:
            for beside in ((row - 1, column), (row + 1, column), (row, column - 1), (row, column + 1)):
                if beside in places and beside not in wet and letter_at(board, beside) == letter_at(board, place):
                    wet.append(beside)
        seen |= set(wet)
        pieces.append((letter_at(board, place), tuple(sorted([row * wide + column for row, column in wet]))))
    return pieces


def letter_at(board, place):
    return board[place[0]][place[1]]


class IsBoard(Case):
    def test_boards_of_all_sizes(self):
        rng = random.Random(61)
        for high, wide in SIDES:
            self.told(True, is_board, random_board(rng, high, wide))
            self.told(True, is_board, ("a" * wide,) * high)

    def test_each_small_letter(self):
        for letter in "abcdefghijklmnopqrstuvwxyz":
            self.told(True, is_board, (letter,))
            self.told(True, is_board, ("a" + letter, letter + "z"))

    def test_no_other_sign(self):
        for code in list(range(32, 97)) + list(range(123, 127)) + [10]:
            for text in (chr(code), "a" + chr(code), chr(code) + "z"):
                self.told(False, is_board, (text,))
                self.told(False, is_board, ("a" * len(text), text))

    def test_others_are_none_of_any_kind(self):
        for wrong in wrong_boards():
            self.told(False, is_board, wrong)


class Pieces(Case):
    def test_by_hand(self):
        self.told([("a", (0, 1, 3)), ("b", (2, 4, 5))], pieces_of, ("aab", "abb"))
        self.told([("a", (0,))], pieces_of, ("a",))
        self.told([("a", (0,)), ("b", (1,)), ("a", (2,))], pieces_of, ("aba",))
        self.told([("a", (0, 1)), ("b", (2,)), ("a", (3,))], pieces_of, ("aaba",))
        self.told([("a", (0,)), ("b", (1,)), ("a", (2,))], pieces_of, ("a", "b", "a"))
        self.told([("z", (0, 1, 2))], pieces_of, ("z", "z", "z"))
        self.told([("a", tuple(range(40)))], pieces_of, ("aaaaaaaa",) * 5)

    def test_corner_to_corner_is_not_beside(self):
        self.told([("a", (0,)), ("b", (1,)), ("b", (2,)), ("a", (3,))], pieces_of, ("ab", "ba"))

    def test_the_end_of_a_row_is_not_beside_the_start_of_the_next(self):
        expected = [("b", (0,)), ("c", (1,)), ("a", (2,)), ("a", (3,)), ("d", (4,)), ("e", (5,))]
        self.told(expected, pieces_of, ("bca", "ade"))

    def test_a_piece_that_winds(self):
        board = ("aaaaaaa", "bbbbbba", "aaaaaba", "abbbaba", "abaaaba")
        self.told([("a", (0, 1, 2, 3, 4, 5, 6, 13, 20, 27, 34)), ("b", (7, 8, 9, 10, 11, 12, 19, 26, 33)),
                   ("a", (14, 15, 16, 17, 18, 21, 25, 28, 30, 31, 32)), ("b", (22, 23, 24, 29))], pieces_of, board)

    def test_many_boards(self):
        rng = random.Random(62)
        for high, wide in SIDES:
            for turn in range(3):
                board = random_board(rng, high, wide)
                self.told(pieces_by_places(board), pieces_of, board)

    def test_a_told_list_that_is_changed_is_told_anew(self):
        told = pieces_of(("ab",))
        told.clear()
        self.same([("a", (0,)), ("b", (1,))], pieces_of(("ab",)))


class Refusals(Case):
    def test_no_board_of_any_kind(self):
        for wrong in wrong_boards():
            self.refused(NoBoard, pieces_of, wrong)
