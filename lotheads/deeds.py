"""Deeds: finds and joins in stores, and the rows of them, of joins, tellings and ties."""

from lotheads.errors import NoDeed
from lotheads.finds import find_in
from lotheads.forests import is_thing, is_whole

LENGTHS = {"find": 2, "join": 3}


def is_deed(many, thing):
    if not isinstance(thing, tuple) or len(thing) == 0:
        return False
    word = thing[0]
    if not isinstance(word, str) or LENGTHS.get(word) != len(thing):
        return False
    return all([is_thing(many, x) for x in thing[1:]])


def is_pair(many, thing):
    if not isinstance(thing, tuple) or len(thing) != 2:
        return False
    return is_thing(many, thing[0]) and is_thing(many, thing[1])


def is_telling(many, thing):
    if not isinstance(thing, tuple) or len(thing) != 3:
        return False
    return is_pair(many, thing[:2]) and is_whole(thing[2])


def is_rest(thing):
    return is_whole(thing) and (thing == 0 or 2 <= thing <= 1000)


def by_rest(rest, number):
    return number if rest == 0 else number % rest


def comes_to(rest, tellings, road):
    """What the end of a road of tellings, of tuples (N, SIGN), is more than its start."""
    return by_rest(rest, sum([tellings[number][2] * sign for number, sign in road]))


def is_tie(many, thing):
    return is_telling(many, thing) and thing[2] >= 0


def check_row(many, row, is_right):
    """Refuses a row at its first place that is_right(many, place) does not take."""
    if not isinstance(row, tuple):
        raise NoDeed(None)
    for number, place in enumerate(row):
        if not is_right(many, place):
            raise NoDeed(number)


def check_joins(many, row):
    check_row(many, row, is_pair)


def first_stays(join, marks, first, second):
    if join == "told":
        return True
    if join == "names":
        return first < second
    return marks[first] >= marks[second]


def mark_behind(join, top, under):
    if join == "size":
        return top + under
    if join == "rank" and top == under:
        return top + 1
    return top


def with_heads_joined(store, first, second):
    join, short, ups, marks = store
    stays = first_stays(join, marks, first, second)
    top, under = (first, second) if stays else (second, first)
    new_ups = list(ups)
    new_ups[under] = top
    new_marks = list(marks)
    new_marks[top] = mark_behind(join, marks[top], marks[under])
    return join, short, tuple(new_ups), tuple(new_marks)


def copied(numbers):
    # Python hands back a tuple of a tuple as it is; what is told is to be new.
    return tuple(list(numbers))


def find_done(store, x):
    join, short, ups, marks = store
    head, behind, steps = find_in(ups, short, x)
    return (join, short, behind, copied(marks)), head, steps


def join_done(store, x, y):
    after_x, first, steps_x = find_done(store, x)
    after_y, second, steps_y = find_done(after_x, y)
    steps = steps_x + steps_y
    if first == second:
        return after_y, False, steps
    return with_heads_joined(after_y, first, second), True, steps


def deed_done(store, deed):
    """The deed where store and deed are known to be right."""
    if deed[0] == "find":
        return find_done(store, deed[1])
    return join_done(store, deed[1], deed[2])


def done(store, deed):
    if not is_deed(len(store[2]), deed):
        raise NoDeed(0)
    return deed_done(store, deed)


def run(store, row):
    check_row(len(store[2]), row, is_deed)
    join, short, ups, marks = store
    behind = (join, short, copied(ups), copied(marks))
    answers = []
    steps = []
    for deed in row:
        behind, answer, count = deed_done(behind, deed)
        answers.append(answer)
        steps.append(count)
    return behind, answers, steps
