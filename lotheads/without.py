"""What a row of joins comes to without one of them."""

from lotheads.errors import NoNumber
from lotheads.forests import is_thing
from lotheads.moments import check_many_and_row, forest_and_times, real_numbers


def check_number(row, number):
    if not is_thing(len(row), number):
        raise NoNumber("no number of a join of the row")


def without(many, row, number):
    check_many_and_row(many, row)
    check_number(row, number)
    rest = row[:number] + row[number + 1:]
    reals = real_numbers(many, row)
    # In the rest all later joins stand one place ahead.
    reals_without = [real + 1 for real in real_numbers(many, rest)]
    later = list(range(number + 1, len(row)))
    changed = [at for at in later if (at in reals) != (at in reals_without)]
    return forest_and_times(many, rest)[0], tuple(changed)
