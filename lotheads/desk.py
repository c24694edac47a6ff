"""The desk: a store and a pile of joins that are asked and told by rows of words."""

from lotheads.checker import holds
from lotheads.deeds import done
from lotheads.errors import NoRow
from lotheads.forests import depth_of, lot_of, lots_of
from lotheads.moments import first_moment
from lotheads.papers import paper_two
from lotheads.piles import Pile
from lotheads.rowtexts import words_in
from lotheads.stores import new_store
from lotheads.strikes import least_strikes


def answer_of(desk, deed):
    """Does the deed in the desk's store; what is no deed is refused ahead of all changes."""
    desk.store, answer, steps = done(desk.store, deed)
    desk.total += steps
    return answer


def many_of(desk):
    return len(desk.store[2])


def shown(lot):
    return " ".join([str(x) for x in lot])


def say_find(desk, x):
    return str(answer_of(desk, ("find", x)))


def say_join(desk, x, y):
    real = answer_of(desk, ("join", x, y))
    desk.pile.join(x, y)
    return "real" if real else "idle"


def say_steps(desk):
    return str(desk.total)


def say_depth(desk, x):
    return str(depth_of(desk.store[2], x))


def say_lot(desk, x):
    return shown(lot_of(desk.store[2], x))


def say_lots(desk):
    return "; ".join([shown(lot) for lot in lots_of(desk.store[2])])


def say_back(desk):
    desk.pile.back()
    return "ok"


def say_first(desk, x, y):
    told = first_moment(many_of(desk), desk.pile.joins(), x, y)
    return str(told[1]) if told[0] == "one" else "apart"


def say_strikes(desk, x, y):
    strikes, roads = least_strikes(many_of(desk), desk.pile.joins(), x, y)
    return str(len(strikes))


def say_paper(desk, x, y):
    claim, paper = paper_two(many_of(desk), desk.pile.joins(), x, y)
    return "holds" if holds(claim, paper) else "no"


SAYINGS = {
    "find": say_find,
    "join": say_join,
    "steps": say_steps,
    "depth": say_depth,
    "lot": say_lot,
    "lots": say_lots,
    "back": say_back,
    "first": say_first,
    "strikes": say_strikes,
    "paper": say_paper,
}

# How many numbers stand behind each word.
COUNTS = {
    "find": 1, "join": 2, "steps": 0, "depth": 1, "lot": 1, "lots": 0, "back": 0, "first": 2, "strikes": 2, "paper": 2,
}


class Desk:
    """A store, a pile on which its joins are put, too, and the total of its steps."""

    def __init__(self, many, join, short):
        self.store = new_store(many, join, short)
        self.pile = Pile(many)
        self.total = 0

    def say(self, row):
        if not isinstance(row, str):
            raise NoRow("no text")
        word, *numbers = words_in(row)
        if COUNTS.get(word) != len(numbers) or None in numbers:
            raise NoRow("no row of words that a desk knows")
        saying = SAYINGS[word]
        return saying(self, *numbers)
