"""Surfaces of second degree: their kinds, tangents, sections, rods and axes."""

from stringrods.errors import Far, Flat, InvalidSurface, NotJustOne, NotOnIt
from stringrods.forms import form_on, form_value, pairs_count, signs_of, told_pairs
from stringrods.grids import determinant, led
from stringrods.rods import CORNERS, check_rod, check_three, plane_row, point_row, points_of, three_products
from stringrods.rows import combined, dot, is_reduced_row, minus, reduced, times
from stringrods.spaces import check_plane, check_point, join
from stringrods.stairs import in_stairs, rank_of, room_of

# Where the numbers of the square stand among the ten.
PLACES = ((0, 1, 2, 3), (1, 4, 5, 6), (2, 5, 7, 8), (3, 6, 8, 9))
FAR_PLANE = (1, 0, 0, 0)
# The words for how many squares have a factor of one sign and of the other one.
LOW_KINDS = {(1, 1): "planes", (2, 0): "rod", (1, 0): "plane"}
SECTIONS = {(0, 0): "all", (1, 0): "rod", (1, 1): "rods", (2, 0): "point", (3, 0): "nothing"}
# The words for none, one and two far points.
OVALS = ("oval", "arch", "bow")


def is_surface(value):
    """Tell whether a value, whatever it is, is a surface."""
    return is_reduced_row(value, 10)


def check_surface(value):
    """Raise InvalidSurface for what is no surface."""
    if not is_surface(value):
        raise InvalidSurface(value)


def square_of(surface):
    """Return the four rows of the square of a surface."""
    return [tuple([surface[at] for at in line]) for line in PLACES]


def regular_square(surface):
    """Return the square of a surface; raise Flat for a rank below 4."""
    square = square_of(surface)
    if determinant(square) == 0:
        raise Flat()
    return square


def counted_signs(form):
    """Return how many squares of a form have a factor of one sign and of the other one, the greater first."""
    above, below = signs_of(form)
    return (max(above, below), min(above, below))


def surface_of(rod, other, third):
    """Return the surface of three rods apart from one another."""
    check_three(rod, other, third)
    three_products(rod, other, third)
    # The value at X is that of the plane of X and the second rod at the point
    # that the third rod has in the plane of X and the first one.
    planes = [plane_row(other, corner) for corner in CORNERS]
    points = [point_row(third, plane_row(rod, corner)) for corner in CORNERS]
    numbers = []
    for low in range(4):
        for high in range(low, 4):
            numbers.append(dot(planes[low], points[high]) + dot(planes[high], points[low]))
    return reduced(numbers)


def surface_at(surface, point):
    """Return the value of the surface at the point."""
    check_surface(surface)
    check_point(point)
    return form_value(square_of(surface), point, point)


def full_kind(square, far_form):
    """Return the kind of a surface of rank 4."""
    signs = counted_signs(square)
    level = determinant(far_form) == 0
    if signs == (2, 2):
        return "saddle" if level else "waist"
    if signs == (4, 0):
        return "nothing"
    if level:
        return "bowl"
    return "egg" if counted_signs(far_form) == (3, 0) else "bowls"


def surface_kind(surface):
    """Return the word for the kind of the surface."""
    check_surface(surface)
    square = square_of(surface)
    many = rank_of(square)
    if many == 4:
        return full_kind(square, [row[1:] for row in square[1:]])
    signs = counted_signs(square)
    if many < 3:
        return LOW_KINDS[signs]
    if signs == (3, 0):
        return "point"
    corner = room_of(square)[0]
    return "tube" if corner[0] == 0 else "cone"


def on_rod_form(surface, rod):
    """Return the three numbers of the value's form on the rod's two points in stairs."""
    form = form_on(square_of(surface), points_of(rod))
    return (form[0][0], form[0][1], form[1][1])


def has_rod_on(surface, rod):
    """Tell whether the rod lies on the surface."""
    check_surface(surface)
    check_rod(rod)
    return not any(on_rod_form(surface, rod))


def tangent(surface, point):
    """Return the tangent plane at a point of the surface that is no corner."""
    check_surface(surface)
    check_point(point)
    plane = led(square_of(surface), point)
    if dot(plane, point) != 0:
        raise NotOnIt(point)
    if not any(plane):
        raise Flat()
    return reduced(plane)


def touches(surface, plane):
    """Tell whether the plane is the tangent of the surface, of rank 4, at one of its points."""
    check_surface(surface)
    check_plane(plane)
    square = regular_square(surface)
    # The form on the plane's points has the determinant 0 exactly if the plane touches.
    return determinant(form_on(square, room_of([plane]))) == 0


def rods_at(surface, point):
    """Return the ascending tuple of the rods told by fractions on the surface, of rank 4, through the point."""
    check_surface(surface)
    check_point(point)
    square = regular_square(surface)
    plane = led(square, point)
    if dot(plane, point) != 0:
        raise NotOnIt(point)
    # Two points of the tangent plane that are in no line with the point: what is left
    # of the value's form there tells the directions of the rods.
    base = room_of([plane])
    sides = [(left, right) for at, left in enumerate(base) for right in base[at + 1:]]
    sides = [side for side in sides if rank_of((point,) + side) == 3][0]
    form = form_on(square, sides)
    pairs = told_pairs(form[0][0], form[0][1], form[1][1])
    ends = [reduced(combined(pair, sides)) for pair in pairs]
    return tuple(sorted([join(point, end) for end in ends]))


def oval_word(square, plane):
    """Return the word for a section with three squares that are not all of one sign."""
    far_points = room_of([plane, FAR_PLANE])
    form = form_on(square, far_points)
    return OVALS[pairs_count(form[0][0], form[0][1], form[1][1])]


def section(surface, plane):
    """Return the word for the section of the surface with a plane that is not far."""
    check_surface(surface)
    check_plane(plane)
    if plane == FAR_PLANE:
        raise Far()
    square = square_of(surface)
    signs = counted_signs(form_on(square, room_of([plane])))
    if signs == (2, 1):
        return oval_word(square, plane)
    return SECTIONS[signs]


def points_on(surface, rod):
    """Return how many points the rod has with the surface in common: 0, 1, 2 or the word for endless ones."""
    check_surface(surface)
    check_rod(rod)
    first, mixed, last = on_rod_form(surface, rod)
    return pairs_count(first, mixed, last)


def told_points(surface, rod):
    """Return the ascending tuple of the common points told by fractions, None if there are endless ones."""
    check_surface(surface)
    check_rod(rod)
    first, mixed, last = on_rod_form(surface, rod)
    pairs = told_pairs(first, mixed, last)
    if pairs is None:
        return None
    return tuple(sorted([reduced(combined(pair, points_of(rod))) for pair in pairs]))


def center(surface):
    """Return the center of a surface of rank 4, if it is not far."""
    check_surface(surface)
    point = room_of(regular_square(surface)[1:])[0]
    if point[0] == 0:
        raise Far()
    return point


def twofold_numbers(far_form):
    """Return pairs of a number and a part: if the form has a twofold number, it is one of these, number / part."""
    for low, high, left in ((0, 1, 2), (0, 2, 1), (1, 2, 0)):
        part = far_form[low][high]
        if part != 0:
            # With the rank 1 the number on the slant, less the twofold one, times the part
            # is the product of the two that stand beside it.
            return [(far_form[left][left] * part - far_form[left][low] * far_form[left][high], part)]
    return [(far_form[at][at], 1) for at in range(3)]


def round_base(square):
    """Return N less a twofold number, in stairs, with this number and its part, None if it is not round."""
    far_form = [row[1:] for row in square[1:]]
    for number, part in twofold_numbers(far_form):
        rows = []
        for at, row in enumerate(far_form):
            less = tuple([number if place == at else 0 for place in range(3)])
            rows.append(minus(times(part, row), less))
        base = in_stairs(rows)
        if len(base) < 2:
            return base, number, part
    return None


def is_round(surface):
    """Tell whether a surface of rank 4 is round."""
    check_surface(surface)
    return round_base(regular_square(surface)) is not None


def round_axis(surface):
    """Return the axis of a surface of rank 4, None if it is not round."""
    check_surface(surface)
    square = regular_square(surface)
    told = round_base(square)
    if told is None:
        return None
    base, number, part = told
    if not base:
        raise NotJustOne()
    # On the axis the slope of the value runs along it; the rank 4 keeps the number from being 0.
    foot = reduced((number,) + times(-part, square[0][1:]))
    return join(foot, (0,) + base[0])
