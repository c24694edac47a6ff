"""Rows of deeds as texts: a deed in each row, its word and its figures parted by one blank."""

from lotheads.deeds import check_row, is_deed
from lotheads.errors import NoText
from lotheads.forests import MOST_THINGS, check_many

MOST_ROWS = 60


def number_in(figures):
    """The number that these one to three figures are, without noughts ahead; None of another text."""
    if len(figures) not in (1, 2, 3) or not all(["0" <= sign <= "9" for sign in figures]):
        return None
    if len(figures) > 1 and figures[0] == "0":
        return None
    return int(figures)


def words_in(row):
    """A row's first word as a text, and the others as numbers, None for what is none, in one tuple."""
    word, *others = row.split(" ")
    numbers = [number_in(figures) for figures in others]
    return (word, *numbers)


def show_row(row):
    # How many things there are isn't told here: more than the most there are none.
    check_row(MOST_THINGS, row, is_deed)
    return "\n".join([" ".join([str(word) for word in deed]) for deed in row])


def read_row(many, text):
    check_many(many)
    if not isinstance(text, str):
        raise NoText(0)
    if text == "":
        return ()
    deeds = [words_in(row) for row in text.split("\n")]
    for number, deed in enumerate(deeds):
        if number == MOST_ROWS or not is_deed(many, deed):
            raise NoText(number)
    return tuple(deeds)
