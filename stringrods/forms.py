"""Forms of second degree: their squares, and where those of two numbers are 0."""

from math import isqrt

from stringrods.rows import dot, minus, plus, reduced, times

ENDLESS = "endless"


def form_value(form, row, other):
    """Return the value of the form, rows of whole numbers, on two rows together."""
    return dot(row, [dot(line, other) for line in form])


def form_on(form, base):
    """Return the rows of the form on the sums of multiples of the base."""
    return [tuple([form_value(form, row, other) for other in base]) for row in base]


def unit_rows(length):
    """Return the rows with one 1 and 0 otherwise."""
    return [tuple([int(place == at) for place in range(length)]) for at in range(length)]


def with_square_ahead(form, base):
    """Return a base of the same rows, the first with a value on itself that is not 0 if any has one."""
    for at, row in enumerate(base):
        if form_value(form, row, row) != 0:
            return [row] + base[:at] + base[at + 1:]
    for at, row in enumerate(base):
        for other in base[at + 1:]:
            if form_value(form, row, other) != 0:
                # Both have the value 0, so their sum has twice the value on both.
                return [plus(row, other)] + base[:at] + base[at + 1:]
    return base


def squares_of(form):
    """Return pairs of a row and its value: a base, the form being 0 on each two rows of it together."""
    rest = unit_rows(len(form))
    told = []
    while rest:
        rest = with_square_ahead(form, rest)
        head, rest = rest[0], rest[1:]
        value = form_value(form, head, head)
        told.append((head, value))
        # With the value 0 the form is nought on all that is left.
        if value != 0:
            parts = [times(form_value(form, row, head), head) for row in rest]
            rest = [reduced(minus(times(value, row), part)) for row, part in zip(rest, parts)]
    return told


def signs_of(form):
    """Return how many squares of the form have a factor above 0, and how many one below 0."""
    values = [value for _, value in squares_of(form)]
    above = len([value for value in values if value > 0])
    return above, len([value for value in values if value < 0])


def pairs_count(first, mixed, last):
    """Return how many pairs s : t make first s s + 2 mixed s t + last t t nought, told by fractions or not."""
    if first == 0 and mixed == 0 and last == 0:
        return ENDLESS
    part = mixed * mixed - first * last
    if part < 0:
        return 0
    return 2 if part > 0 else 1


def told_pairs(first, mixed, last):
    """Return all such pairs that are told by fractions, as whole numbers; None if there are endless ones."""
    count = pairs_count(first, mixed, last)
    if count == ENDLESS:
        return None
    part = mixed * mixed - first * last
    if count == 0 or isqrt(part) * isqrt(part) != part:
        return []
    root = isqrt(part)
    if first == 0:
        return [(1, 0), (-last, 2 * mixed)][:count]
    return [(root - mixed, first), (-root - mixed, first)][:count]
