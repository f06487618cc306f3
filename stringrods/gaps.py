"""How near rods, points and planes come to one another, told by squares."""

from stringrods.errors import Far, Parallel
from stringrods.ratios import ratio
from stringrods.rods import check_rod, check_rods, plane_row, point_row, row_product
from stringrods.rows import cross, dot, minus, reduced, times
from stringrods.spaces import check_plane, check_point, cut


def length(row):
    """Return the sum of the squares of the numbers."""
    return dot(row, row)


def check_near_rods(rods):
    """Raise Far if one of the rods is far."""
    if not all([any(rod[:3]) for rod in rods]):
        raise Far()


def check_near_points(points):
    """Raise Far if one of the points is far."""
    if not all([point[0] != 0 for point in points]):
        raise Far()


def check_two(rod, other):
    """Raise InvalidRod for what is no rod, then Far if one of both is far."""
    check_rods(rod, other)
    check_near_rods((rod, other))


def square_way(rod, other):
    """Return the cross product of both directions, nought for parallel rods."""
    return cross(rod[:3], other[:3])


def check_slanted(rod, other):
    """Raise InvalidRod, Far, then Parallel for parallel rods."""
    check_two(rod, other)
    if not any(square_way(rod, other)):
        raise Parallel()


def gap(rod, other):
    """Return the square of the least distance of points of both rods."""
    check_two(rod, other)
    way = square_way(rod, other)
    if any(way):
        part = row_product(rod, other)
        return ratio(part * part, length(way))
    along, own = dot(rod[:3], other[:3]), length(rod[:3])
    apart = minus(times(along, rod[3:]), times(own, other[3:]))
    return ratio(length(apart), own * along * along)


def is_parallel(rod, other):
    """Tell whether both rods are parallel, or the same."""
    check_two(rod, other)
    return not any(square_way(rod, other))


def slant(rod, other):
    """Return the square of the cosine of the angle of both rods."""
    check_two(rod, other)
    along = dot(rod[:3], other[:3])
    return ratio(along * along, length(rod[:3]) * length(other[:3]))


def square_rod(rod, other):
    """Return the rod that meets both rods, not parallel, at right angles."""
    check_slanted(rod, other)
    end = (0,) + square_way(rod, other)
    return cut(reduced(plane_row(rod, end)), reduced(plane_row(other, end)))


def nearest(rod, other):
    """Return the pair of the points of both rods, not parallel, that are nearest to one another."""
    check_slanted(rod, other)
    end = (0,) + square_way(rod, other)
    # Each rod cuts the plane of the other one and the square rod.
    first = point_row(rod, plane_row(other, end))
    second = point_row(other, plane_row(rod, end))
    return (reduced(first), reduced(second))


def foot(rod, point):
    """Return the point of the rod nearest to the point."""
    check_rod(rod)
    check_point(point)
    check_near_rods((rod,))
    check_near_points((point,))
    way = rod[:3]
    # The plane through the point at right angles to the rod.
    plane = (-dot(way, point[1:]),) + times(point[0], way)
    return reduced(point_row(rod, plane))


def rod_gap(rod, point):
    """Return the square of the distance of the point from the rod."""
    check_rod(rod)
    check_point(point)
    check_near_rods((rod,))
    check_near_points((point,))
    apart = minus(times(point[0], rod[3:]), cross(point[1:], rod[:3]))
    return ratio(length(apart), point[0] * point[0] * length(rod[:3]))


def point_gap(point, other):
    """Return the square of the distance of both points."""
    check_point(point)
    check_point(other)
    check_near_points((point, other))
    apart = minus(times(point[0], other[1:]), times(other[0], point[1:]))
    part = point[0] * other[0]
    return ratio(length(apart), part * part)


def plane_gap(plane, point):
    """Return the square of the distance of the point from the plane."""
    check_plane(plane)
    check_point(point)
    if not any(plane[1:]):
        raise Far()
    check_near_points((point,))
    part = dot(plane, point)
    return ratio(part * part, point[0] * point[0] * length(plane[1:]))
