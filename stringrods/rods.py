"""Rods: their product, and what they have in common with points, planes and each other."""

from stringrods.errors import Apart, InvalidRod, Meeting, NotJustOne, Same
from stringrods.rows import cross, dot, is_reduced_row, minus, plus, reduced, times
from stringrods.spaces import check_plane, check_point
from stringrods.stairs import room_of

# Four points of no one plane; read as planes, four planes without a common point.
CORNERS = ((1, 0, 0, 0), (0, 1, 0, 0), (0, 0, 1, 0), (0, 0, 0, 1))
UNIT_RODS = (
    (1, 0, 0, 0, 0, 0), (0, 1, 0, 0, 0, 0), (0, 0, 1, 0, 0, 0),
    (0, 0, 0, 1, 0, 0), (0, 0, 0, 0, 1, 0), (0, 0, 0, 0, 0, 1),
)


def is_rod(value):
    """Tell whether a value, whatever it is, is a rod."""
    return is_reduced_row(value, 6) and dot(value[:3], value[3:]) == 0


def check_rod(value):
    """Raise InvalidRod for what is no rod."""
    if not is_rod(value):
        raise InvalidRod(value)


def check_rods(rod, other):
    """Raise InvalidRod for the first one of both that is no rod."""
    check_rod(rod)
    check_rod(other)


def check_three(rod, other, third):
    """Raise InvalidRod for the first one of three that is no rod."""
    check_rods(rod, other)
    check_rod(third)


def swapped(row):
    """Return the row of six whose sum of products with another one is the product of both."""
    return row[3:] + row[:3]


def row_product(row, other):
    """Return the product of two rows of six, reduced or not."""
    return dot(row, swapped(other))


def three_products(rod, other, third):
    """Return the products of the last two, of the outer two and of the first two; raise Meeting if two meet."""
    parts = (row_product(other, third), row_product(rod, third), row_product(rod, other))
    if 0 in parts:
        raise Meeting()
    return parts


def rows_met_by(rods):
    """Return the base in stairs of all rows of six that have the product 0 with each of these."""
    return room_of([swapped(rod) for rod in rods])


def plane_row(rod, point):
    """Return the numbers, not reduced, of the plane of both; all 0 for a point on the rod."""
    direction, moment = rod[:3], rod[3:]
    slope = plus(times(point[0], moment), cross(direction, point[1:]))
    return (-dot(moment, point[1:]),) + slope


def point_row(rod, plane):
    """Return the numbers, not reduced, of the point of both; all 0 for a rod in the plane."""
    direction, moment = rod[:3], rod[3:]
    place = minus(cross(plane[1:], moment), times(plane[0], direction))
    return (dot(plane[1:], direction),) + place


def points_of(rod):
    """Return the two points in stairs whose sums of multiples are the points of the rod."""
    # The points of the rod are those that all planes through it have in common.
    return room_of([plane_row(rod, corner) for corner in CORNERS])


def rows_through(rows, point):
    """Return the base in stairs of all rods through the point that have the product 0 with each of these rows."""
    # A rod goes through a point exactly if their plane is nought.
    planes = [plane_row(unit, point) for unit in UNIT_RODS]
    through = [tuple([plane[at] for plane in planes]) for at in range(4)]
    return room_of([swapped(row) for row in rows] + through)


def product(rod, other):
    """Return the product of two rods."""
    check_rods(rod, other)
    return row_product(rod, other)


def do_meet(rod, other):
    """Tell whether two rods meet."""
    check_rods(rod, other)
    return row_product(rod, other) == 0


def on_rod(point, rod):
    """Tell whether the point is on the rod."""
    check_point(point)
    check_rod(rod)
    return not any(plane_row(rod, point))


def in_plane(rod, plane):
    """Tell whether the rod lies in the plane."""
    check_rod(rod)
    check_plane(plane)
    return not any(point_row(rod, plane))


def plane_with(rod, point):
    """Return the plane of the rod and a point that is not on it."""
    check_rod(rod)
    check_point(point)
    plane = plane_row(rod, point)
    if not any(plane):
        raise NotJustOne()
    return reduced(plane)


def point_in(rod, plane):
    """Return the point of the rod in a plane in which it does not lie."""
    check_rod(rod)
    check_plane(plane)
    point = point_row(rod, plane)
    if not any(point):
        raise NotJustOne()
    return reduced(point)


def check_unlike_meeting(rod, other):
    """Raise Apart for two rods that do not meet, Same for one rod twice."""
    check_rods(rod, other)
    if row_product(rod, other) != 0:
        raise Apart()
    if rod == other:
        raise Same()


def meeting_point(rod, other):
    """Return the point of two unlike rods that meet."""
    check_unlike_meeting(rod, other)
    # The planes of the other rod and each corner are not all one plane, and the rod
    # lies in just one plane with the other rod: so some of them cuts it in the point.
    points = [point_row(rod, plane_row(other, corner)) for corner in CORNERS]
    return reduced([point for point in points if any(point)][0])


def meeting_plane(rod, other):
    """Return the plane of two unlike rods that meet."""
    check_unlike_meeting(rod, other)
    # As in meeting_point, with points and planes exchanged.
    planes = [plane_row(rod, point_row(other, corner)) for corner in CORNERS]
    return reduced([plane for plane in planes if any(plane)][0])


def hand(rod, other, third):
    """Return the hand, 1 or -1, of three rods apart from one another."""
    check_three(rod, other, third)
    below = [part for part in three_products(rod, other, third) if part < 0]
    return -1 if len(below) in (1, 3) else 1
