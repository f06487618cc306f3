"""Rings: the rods that three rods apart from one another add up to, and those that meet these."""

from stringrods.errors import Far, InvalidNumber, NotOnIt
from stringrods.lows import pair_below
from stringrods.ratios import check_ratio
from stringrods.rods import check_rod, check_three, points_of, row_product, rows_met_by, rows_through, three_products
from stringrods.rows import combined, cross, dot, is_whole, minus, plus, reduced, times
from stringrods.spaces import check_point
from stringrods.stairs import rank_of


def check_number(value):
    """Raise InvalidNumber for what is no whole number."""
    if not is_whole(value):
        raise InvalidNumber(value)


def in_ring(rod, other, third, fourth):
    """Tell whether the fourth rod is of the ring of the first three."""
    check_three(rod, other, third)
    check_rod(fourth)
    three_products(rod, other, third)
    return rank_of((rod, other, third, fourth)) == 3


def meets_all(rod, other, third, fourth):
    """Tell whether the fourth rod is of the cross ring of the first three."""
    check_three(rod, other, third)
    check_rod(fourth)
    three_products(rod, other, third)
    return all([row_product(each, fourth) == 0 for each in (rod, other, third)])


def one_through(rows, point):
    """Return the one rod through the point that has the product 0 with each row; raise NotOnIt if there is none."""
    found = rows_through(rows, point)
    if not found:
        raise NotOnIt(point)
    return found[0]


def ring_at(rod, other, third, point):
    """Return the rod of the ring through a point of the surface of the three."""
    check_three(rod, other, third)
    check_point(point)
    three_products(rod, other, third)
    # The ring is what has the product 0 with all that has it with the three.
    return one_through(rows_met_by((rod, other, third)), point)


def cross_at(rod, other, third, point):
    """Return the rod of the cross ring through a point of the surface of the three."""
    check_three(rod, other, third)
    check_point(point)
    three_products(rod, other, third)
    return one_through((rod, other, third), point)


def ring_form(rod, other, third):
    """Return the rows ahead of s s, s t and t t in the row of the ring, all divided by the product q."""
    first, second, last = three_products(rod, other, third)
    mixed = combined((first, -second, last), (rod, other, third))
    return (times(-first, third), mixed, times(-last, rod))


def ring_row(form, number, turn):
    """Return the rod of the ring for this s and t, not both 0."""
    return reduced(combined((number * number, number * turn, turn * turn), form))


def ring_rod(rod, other, third, number, turn):
    """Return the rod of the ring for s, the number, and t, the turn."""
    check_three(rod, other, third)
    check_number(number)
    check_number(turn)
    if number == 0 and turn == 0:
        raise InvalidNumber(turn)
    return ring_row(ring_form(rod, other, third), number, turn)


def crossing_three(rod, other, third):
    """Return the rods of the cross ring through the first rod's two points in stairs and through their sum."""
    check_three(rod, other, third)
    three_products(rod, other, third)
    first, second = points_of(rod)
    points = (first, second, plus(first, second))
    return tuple([one_through((rod, other, third), point) for point in points])


def nearness(rows, point, fraction):
    """Return the form of degree 4 that is below 0 just for the rods nearer to the point than the fraction."""
    number, part = fraction
    weight = point[0]
    ways = [minus(times(weight, row[3:]), cross(point[1:], row[:3])) for row in rows]
    form = []
    for way, row in zip(ways, rows):
        lengths = [number * weight * weight * dot(row[:3], each[:3]) for each in rows]
        form.append([part * dot(way, each) - length for each, length in zip(ways, lengths)])
    middle = 2 * form[0][2] + form[1][1]
    return (form[0][0], 2 * form[0][1], middle, 2 * form[1][2], form[2][2])


def near_rod(rod, other, third, point, fraction):
    """Return a rod of the ring, not far, whose distance from the point has a square below the fraction, or None."""
    check_three(rod, other, third)
    check_point(point)
    check_ratio(fraction)
    form = ring_form(rod, other, third)
    if point[0] == 0:
        raise Far()
    pair = pair_below(nearness(form, point, fraction))
    # Where the form is below 0 the direction is not nought: so the rod is not far.
    return None if pair is None else ring_row(form, pair[0], pair[1])


def keeps_off(rod, other, third, point, fraction):
    """Tell whether the squares of the distances of all rods of the ring from the point are at least the fraction."""
    return near_rod(rod, other, third, point, fraction) is None
