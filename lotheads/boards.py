"""Boards: spots with letters, and the pieces of spots with one letter."""

from lotheads.errors import NoBoard
from lotheads.forests import is_many
from lotheads.moments import lots_by


def is_of_small_letters(thing):
    return isinstance(thing, str) and all(["a" <= sign <= "z" for sign in thing])


def is_board(thing):
    if not isinstance(thing, tuple) or not all([is_of_small_letters(text) for text in thing]):
        return False
    # As many spots are allowed as things.
    if not is_many(sum([len(text) for text in thing])):
        return False
    return all([len(text) == len(thing[0]) for text in thing])


def neighbours(many, wide):
    """All spots with the ones right behind and right below them, each two once."""
    behind = [(spot, spot + 1) for spot in range(many) if (spot + 1) % wide != 0]
    below = [(spot, spot + wide) for spot in range(many - wide)]
    return behind + below


def pieces_of(board):
    if not is_board(board):
        raise NoBoard("no board")
    letters = "".join(board)
    beside = neighbours(len(letters), len(board[0]))
    joins = [(spot, other) for spot, other in beside if letters[spot] == letters[other]]
    return [(letters[lot[0]], lot) for lot in lots_by(len(letters), joins)]
