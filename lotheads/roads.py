"""Roads: what steps lead to, by as few of them as can be.

A step is a tuple (FROM, TO, LABEL). A row's steps have the label (NUMBER, SIGN): the number of a join, telling or tie,
and 1 where it is gone from its first thing to its second, -1 where back.
"""


def steps_along(row, numbers):
    """The steps, both ways, along those of the row that have these numbers."""
    steps = []
    for number in numbers:
        first, second = row[number][:2]
        steps += [(first, second, (number, 1)), (second, first, (number, -1))]
    return steps


def roads_by(steps, x):
    """For each thing to which steps lead from x the labels of a shortest road, which comes to no thing twice."""
    roads = {x: ()}
    waiting = [x]
    while waiting:
        at = waiting.pop(0)
        for start, end, label in steps:
            if start == at and end not in roads:
                roads[end] = roads[at] + (label,)
                waiting.append(end)
    return roads


def numbers_between(steps, x, y):
    """The numbers alone on the road from x to y by steps along a row; None where there is no road."""
    road = roads_by(steps, x).get(y)
    if road is None:
        return None
    return tuple([number for number, sign in road])
