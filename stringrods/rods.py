"""Rods: their product, and what they have in common with points, planes and each other."""

from stringrods.errors import Apart, InvalidRod, Meeting, NotJustOne, Same
from stringrods.rows import cross, dot, is_reduced_row, minus, plus, reduced, times
from stringrods.spaces import check_plane, check_point

# Four points of no one plane; read as planes, four planes without a common point.
CORNERS = ((1, 0, 0, 0), (0, 1, 0, 0), (0, 0, 1, 0), (0, 0, 0, 1))


def is_rod(value):
    """Tell whether a value, whatever it is, is a rod."""
    return is_reduced_row(value, 6) and dot(value[:3], value[3:]) == 0


def check_rod(value):
    """Raise InvalidRod for what is no rod."""
    if not is_rod(value):
        raise InvalidRod(value)


def check_rods(rod, other):
    """Raise InvalidRod for the first one of both that is no rod."""
    check_rod(rod)
    check_rod(other)


def row_product(row, other):
    """Return the product of two rows of six, reduced or not."""
    return dot(row[:3], other[3:]) + dot(row[3:], other[:3])


def plane_row(rod, point):
    """Return the numbers, not reduced, of the plane of both; all 0 for a point on the rod."""
    direction, moment = rod[:3], rod[3:]
    slope = plus(times(point[0], moment), cross(direction, point[1:]))
    return (-dot(moment, point[1:]),) + slope


def point_row(rod, plane):
    """Return the numbers, not reduced, of the point of both; all 0 for a rod in the plane."""
    direction, moment = rod[:3], rod[3:]
    place = minus(cross(plane[1:], moment), times(plane[0], direction))
    return (dot(plane[1:], direction),) + place


def product(rod, other):
    """Return the product of two rods."""
    check_rods(rod, other)
    return row_product(rod, other)


def do_meet(rod, other):
    """Tell whether two rods meet."""
    check_rods(rod, other)
    return row_product(rod, other) == 0


def on_rod(point, rod):
    """Tell whether the point is on the rod."""
    check_point(point)
    check_rod(rod)
    return not any(plane_row(rod, point))


def in_plane(rod, plane):
    """Tell whether the rod lies in the plane."""
    check_rod(rod)
    check_plane(plane)
    return not any(point_row(rod, plane))


def plane_with(rod, point):
    """Return the plane of the rod and a point that is not on it."""
    check_rod(rod)
    check_point(point)
    plane = plane_row(rod, point)
    if not any(plane):
        raise NotJustOne()
    return reduced(plane)


def point_in(rod, plane):
    """Return the point of the rod in a plane in which it does not lie."""
    check_rod(rod)
    check_plane(plane)
    point = point_row(rod, plane)
    if not any(point):
        raise NotJustOne()
    return reduced(point)


def check_unlike_meeting(rod, other):
    """Raise Apart for two rods that do not meet, Same for one rod twice."""
    check_rods(rod, other)
    if row_product(rod, other) != 0:
        raise Apart()
    if rod == other:
        raise Same()


def meeting_point(rod, other):
    """Return the point of two unlike rods that meet."""
    check_unlike_meeting(rod, other)
    # The planes of the other rod and each corner are not all one plane, and the rod
    # lies in just one plane with the other rod: so some of them cuts it in the point.
    points = [point_row(rod, plane_row(other, corner)) for corner in CORNERS]
    return reduced([point for point in points if any(point)][0])


def meeting_plane(rod, other):
    """Return the plane of two unlike rods that meet."""
    check_unlike_meeting(rod, other)
    # As in meeting_point, with points and planes exchanged.
    planes = [plane_row(rod, point_row(other, corner)) for corner in CORNERS]
    return reduced([plane for plane in planes if any(plane)][0])


def hand(rod, other, third):
    """Return the hand, 1 or -1, of three rods apart from one another."""
    check_rods(rod, other)
    check_rod(third)
    sign = 1
    for left, right in ((rod, other), (rod, third), (other, third)):
        part = row_product(left, right)
        if part == 0:
            raise Meeting()
        if part < 0:
            sign = -sign
    return sign
