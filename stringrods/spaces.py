"""Points and planes, and the rods that two of one sort have in common."""

from stringrods.errors import InvalidPlane, InvalidPoint, Same
from stringrods.rows import cross, dot, is_reduced_row, minus, reduced, times


def is_point(value):
    """Tell whether a value, whatever it is, is a point."""
    return is_reduced_row(value, 4)


def is_plane(value):
    """Tell whether a value, whatever it is, is a plane."""
    return is_reduced_row(value, 4)


def check_point(value):
    """Raise InvalidPoint for what is no point."""
    if not is_point(value):
        raise InvalidPoint(value)


def check_plane(value):
    """Raise InvalidPlane for what is no plane."""
    if not is_plane(value):
        raise InvalidPlane(value)


def lies_in(point, plane):
    """Tell whether the point lies in the plane."""
    check_point(point)
    check_plane(plane)
    return dot(point, plane) == 0


def join(point, other):
    """Return the rod through both points."""
    check_point(point)
    check_point(other)
    if point == other:
        raise Same()
    direction = minus(times(point[0], other[1:]), times(other[0], point[1:]))
    return reduced(direction + cross(point[1:], other[1:]))


def cut(plane, other):
    """Return the rod that both planes have in common."""
    check_plane(plane)
    check_plane(other)
    if plane == other:
        raise Same()
    moment = minus(times(plane[0], other[1:]), times(other[0], plane[1:]))
    return reduced(cross(plane[1:], other[1:]) + moment)
