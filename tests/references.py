"""Fractions, ranks and signs of forms, worked out in other ways than the package does."""

from fractions import Fraction
from itertools import product
from math import gcd

from samples import crossed_sum, is_reduced


def eliminated(rows):
    """The rows in row echelon form over the fractions, without noughts, and the places of their heads."""
    rest = [[Fraction(number) for number in row] for row in rows]
    done, heads = [], []
    for at in range(len(rows[0]) if rows else 0):
        picks = [row for row in rest if row[at] != 0]
        if not picks:
            continue
        head = [number / picks[0][at] for number in picks[0]]
        rest = [row for row in rest if row is not picks[0]]
        rest = [[a - row[at] * b for a, b in zip(row, head)] for row in rest]
        done = [[a - row[at] * b for a, b in zip(row, head)] for row in done] + [head]
        heads.append(at)
    return done, heads


def rank_by_fractions(rows):
    return len(eliminated(rows)[0])


def scaled(row):
    """The row of fractions, not all 0, as reduced whole numbers."""
    bottom = 1
    for number in row:
        bottom = bottom * number.denominator // gcd(bottom, number.denominator)
    whole = [int(number * bottom) for number in row]
    divisor = gcd(*whole)
    front = [number for number in whole if number != 0][0]
    if front < 0:
        divisor = -divisor
    return tuple(number // divisor for number in whole)


def base_in_stairs(rows):
    """The base in stairs of [30]."""
    return tuple(scaled(row) for row in eliminated(rows)[0])


def noughts(rows, length):
    """A base of all rows x with the sum of products 0 with each row."""
    done, heads = eliminated(rows)
    base = []
    for free in [at for at in range(length) if at not in heads]:
        row = [Fraction(int(at == free)) for at in range(length)]
        for line, head in zip(done, heads):
            row[head] = -line[free]
        base.append(scaled(row))
    return base


def turned_round(rod):
    return rod[3:] + rod[:3]


def meeting_rows(rods):
    """A base of the room W of [9]."""
    return noughts([turned_round(rod) for rod in rods], 6)


def gram(rows, pair):
    return [[pair(left, right) for right in rows] for left in rows]


def square_value(square, left, right):
    return sum(left[i] * square[i][j] * right[j] for i in range(len(left)) for j in range(len(right)))


def characteristic(matrix):
    """The numbers of det(x - M), the highest first (Faddeev, LeVerrier)."""
    size = len(matrix)
    numbers = [Fraction(1)]
    power = [[Fraction(0)] * size for _ in range(size)]
    for step in range(1, size + 1):
        shifted = [[power[i][j] + (numbers[-1] if i == j else 0) for j in range(size)] for i in range(size)]
        power = [[sum(matrix[i][k] * shifted[k][j] for k in range(size)) for j in range(size)] for i in range(size)]
        numbers.append(-sum(power[i][i] for i in range(size)) / step)
    return numbers


def sign_changes(numbers):
    signs = [number > 0 for number in numbers if number != 0]
    return sum(1 for at in range(1, len(signs)) if signs[at] != signs[at - 1])


def form_signs(matrix):
    """(u, v, z): all roots of det(x - M) are real, so Descartes' rule counts them exactly."""
    numbers = characteristic(matrix)
    size = len(matrix)
    above = sign_changes(numbers)
    below = sign_changes([number if (size - at) % 2 == 0 else -number for at, number in enumerate(numbers)])
    return above, below, size - above - below


def small_rods(most):
    """All rods with numbers up to this size."""
    rows = product(range(-most, most + 1), repeat=6)
    return [row for row in rows if any(row) and crossed_sum(row, row) == 0 and is_reduced(row)]


def square_rows(surface):
    a, b, c, d, e, f, g, h, i, j = surface
    return [(a, b, c, d), (b, e, f, g), (c, f, h, i), (d, g, i, j)]


def distance_square(rod, point):
    """The square of the distance of a point that is not far from a rod that is not far, by projecting."""
    place = [Fraction(number, point[0]) for number in point[1:]]
    d, m = rod[:3], rod[3:]
    long = sum(number * number for number in d)
    # The point of the rod nearest to the origin is d x m / d . d.
    start = [Fraction(d[1] * m[2] - d[2] * m[1], long), Fraction(d[2] * m[0] - d[0] * m[2], long),
             Fraction(d[0] * m[1] - d[1] * m[0], long)]
    way = [a - b for a, b in zip(place, start)]
    along = sum(a * b for a, b in zip(way, d)) / Fraction(long)
    across = [a - along * b for a, b in zip(way, d)]
    return sum(number * number for number in across)
