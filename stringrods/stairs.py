"""Rows in stairs: what adds up to rows of whole numbers, and what has the sum 0 with them."""

from math import lcm

from stringrods.rows import first_not_zero, minus, reduced, times


def cleared(row, step, place):
    """Return the row with its number at the place brought to 0 by the step, reduced if it is not all 0."""
    if row[place] == 0:
        return row
    rest = minus(times(step[place], row), times(row[place], step))
    return reduced(rest) if any(rest) else rest


def in_stairs(rows):
    """Return the base in stairs of all sums of multiples of the rows, () if all of them are 0."""
    rest = [row for row in rows if any(row)]
    steps = []
    for place in range(max([len(row) for row in rows], default=0)):
        heads = [row for row in rest if row[place] != 0]
        if heads:
            step = reduced(heads[0])
            steps = [cleared(each, step, place) for each in steps] + [step]
            rest = [row for row in [cleared(each, step, place) for each in rest] if any(row)]
    return tuple(steps)


def rank_of(rows):
    """Return the greatest number of rows none of which is a sum of multiples of the others."""
    return len(in_stairs(rows))


def head_place(row):
    """Return the place of the first number that is not 0."""
    return row.index(first_not_zero(row))


def room_of(rows):
    """Return the base in stairs of all rows whose sum of products with each of these rows is 0."""
    steps = in_stairs(rows)
    places = [head_place(step) for step in steps]
    common = 1
    for step in steps:
        common = lcm(common, first_not_zero(step))
    base = []
    for free in range(len(rows[0])):
        if free not in places:
            row = [0] * len(rows[0])
            row[free] = common
            for step, place in zip(steps, places):
                row[place] = -step[free] * (common // step[place])
            base.append(tuple(row))
    return in_stairs(base)
