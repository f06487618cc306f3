"""Lots that are alike: those that a map of space leads to one another."""

from math import lcm

from stringrods.errors import InvalidLot, NotJustOne
from stringrods.legs import ties_of
from stringrods.pictures import maps_by, table_of
from stringrods.ratios import ratio
from stringrods.rods import is_rod, row_product
from stringrods.rows import combined, times
from stringrods.stairs import rank_of

LEAST_RODS = 3
MOST_RODS = 8


def check_apart_lot(value, least, most):
    """Raise InvalidLot for what is no lot of from least up to most rods, all apart from one another."""
    if not isinstance(value, tuple) or len(value) < least or len(value) > most:
        raise InvalidLot(None)
    for index, rod in enumerate(value):
        if not is_rod(rod) or 0 in [row_product(rod, each) for each in value[:index]]:
            raise InvalidLot(index)


def check_two_lots(lot, other):
    """Raise InvalidLot for the first one of both that is no such lot, or not of the length of the first one."""
    check_apart_lot(lot, LEAST_RODS, MOST_RODS)
    check_apart_lot(other, len(lot), len(lot))


def products_of(lot):
    """Return the rows of the products of each two rods of the lot."""
    return [[row_product(rod, each) for each in lot] for rod in lot]


def factors_of(lot, other):
    """Return the fraction C and the tuple of the fractions F_i of two such lots, None if there are none."""
    left, right = products_of(lot), products_of(other)
    # F_0 = 1 makes F_i C times (s_0, s_i) / (t_0, t_i), and F_1 F_2 then tells C.
    number, part = ratio(left[1][2] * right[0][1] * right[0][2], right[1][2] * left[0][1] * left[0][2])
    told = [(1, 1)]
    for near, there in zip(left[0][1:], right[0][1:]):
        told.append(ratio(number * near, part * there))
    for low in range(len(lot)):
        for high in range(low):
            above, below = told[low][0] * told[high][0], told[low][1] * told[high][1]
            if above * right[low][high] * part != number * left[low][high] * below:
                return None
    return ((number, part), tuple(told))


def grown_rods(other, known):
    """Return the rows of the rods, each times its factor, all times one whole number, and C times its square."""
    (number, part), told = known
    common = part
    for pair in told:
        common = lcm(common, pair[1])
    rows = tuple([times(pair[0] * (common // pair[1]), rod) for pair, rod in zip(told, other)])
    return rows, number * common * (common // part)


def have_same_ties(lot, other, known):
    """Tell whether two lots with these factors have the same ties."""
    rows, _ = grown_rods(other, known)
    return ties_of(lot) == ties_of(rows)


def is_tie(numbers, rows):
    """Tell whether the numbers, times the rows, add up to noughts."""
    return not any(combined(numbers, rows))


def is_tie_of_one(lot, other, numbers):
    """Tell whether the numbers, as many as the rods, are a tie of just one of two lots with factors."""
    rows, _ = grown_rods(other, factors_of(lot, other))
    return is_tie(numbers, lot) != is_tie(numbers, rows)


def parts_round(left, right, indexes):
    """Tell whether the round products with four unlike indexes, in this order, are unlike."""
    first, second, third, last = indexes
    near = left[first][second] * left[third][last] * right[second][third] * right[last][first]
    there = right[first][second] * right[third][last] * left[second][third] * left[last][first]
    return near != there


def rounds_of(many):
    """Return all four unlike indexes below this number, but for where a round begins and which way it goes."""
    # Begun one further both products of a round change places, gone backwards both stay.
    places = list(range(many))
    rounds = []
    for first in places:
        for second in places[first + 1:]:
            for last in places[second + 1:]:
                thirds = [third for third in places[first + 1:] if third not in (second, last)]
                rounds.extend([(first, second, third, last) for third in thirds])
    return rounds


def factors(lot, other):
    """Return the pair of the fraction C and the tuple of the F_i, None if there are none."""
    check_two_lots(lot, other)
    return factors_of(lot, other)


def are_alike(lot, other):
    """Tell whether a map of space leads each rod of the lot to that of the other lot with the same index."""
    check_two_lots(lot, other)
    known = factors_of(lot, other)
    return known is not None and have_same_ties(lot, other, known)


def parting_round(lot, other):
    """Return four unlike indexes whose round products, in this order, are unlike, None if there are none."""
    check_two_lots(lot, other)
    left, right = products_of(lot), products_of(other)
    for indexes in rounds_of(len(lot)):
        if parts_round(left, right, indexes):
            return indexes
    return None


def parting_ties(lot, other):
    """Return whole numbers that are a tie of just one of two lots with factors, None if there are none."""
    check_two_lots(lot, other)
    known = factors_of(lot, other)
    if known is None:
        return None
    rows, _ = grown_rods(other, known)
    for numbers in ties_of(lot) + ties_of(rows):
        if is_tie(numbers, lot) != is_tie(numbers, rows):
            return numbers
    return None


def tables_between(lot, other):
    """Return the tables of the map of points to points and of that of points to planes, None for unlike lots."""
    check_two_lots(lot, other)
    if rank_of(lot) < 5:
        raise NotJustOne()
    known = factors_of(lot, other)
    if known is None or not have_same_ties(lot, other, known):
        return None
    rows, growth = grown_rods(other, known)
    points, planes = None, None
    for sources, targets in maps_by(lot, rows, growth):
        to_points, table = table_of(sources, targets)
        if to_points:
            points = table
        else:
            planes = table
    return (points, planes)
