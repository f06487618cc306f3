"""Screws, and their nets: the rods that have the product 0 with them."""

from stringrods.errors import Far, Flat, InvalidScrew, NotJustOne, Same
from stringrods.forms import pairs_count, told_pairs
from stringrods.lots import check_lot
from stringrods.ratios import ratio
from stringrods.rods import check_rod, plane_row, point_row, row_product, rows_met_by
from stringrods.rows import combined, dot, is_reduced_row, minus, reduced, times
from stringrods.spaces import check_plane, check_point


def is_screw(value):
    """Tell whether a value, whatever it is, is a screw."""
    return is_reduced_row(value, 6)


def check_screw(value):
    """Raise InvalidScrew for what is no screw."""
    if not is_screw(value):
        raise InvalidScrew(value)


def check_screws(screw, other):
    """Raise InvalidScrew for the first one of both that is no screw."""
    check_screw(screw)
    check_screw(other)


def check_not_flat(screw):
    """Raise Flat for a screw whose product with itself is 0."""
    if row_product(screw, screw) == 0:
        raise Flat()


def screw_product(screw, other):
    """Return the product of two screws."""
    check_screws(screw, other)
    return row_product(screw, other)


def is_flat(screw):
    """Tell whether the screw is flat, and so a rod."""
    check_screw(screw)
    return row_product(screw, screw) == 0


def in_net(screw, rod):
    """Tell whether the rod is of the net of the screw."""
    check_screw(screw)
    check_rod(rod)
    return row_product(screw, rod) == 0


def pole_plane(screw, point):
    """Return the plane of all rods of the net, of a screw that is not flat, through the point."""
    check_screw(screw)
    check_point(point)
    check_not_flat(screw)
    return reduced(plane_row(screw, point))


def pole(screw, plane):
    """Return the point whose pole plane is this plane."""
    check_screw(screw)
    check_plane(plane)
    check_not_flat(screw)
    # What leads planes to points leads a pole plane back, but for the factor d . m.
    return reduced(point_row(screw, plane))


def turned_rod(screw, rod):
    """Return the rod turned by a screw that is not flat."""
    check_screw(screw)
    check_rod(rod)
    check_not_flat(screw)
    own, mixed = row_product(screw, screw), row_product(screw, rod)
    return reduced(minus(times(own, rod), times(2 * mixed, screw)))


def check_with_axis(screw):
    """Raise InvalidScrew for what is no screw, then Far if it has no axis."""
    check_screw(screw)
    if not any(screw[:3]):
        raise Far()


def pitch(screw):
    """Return the pitch of the screw."""
    check_with_axis(screw)
    return ratio(dot(screw[:3], screw[3:]), dot(screw[:3], screw[:3]))


def axis(screw):
    """Return the axis of the screw."""
    check_with_axis(screw)
    way, moment = screw[:3], screw[3:]
    own = dot(way, way)
    return reduced(times(own, way) + minus(times(own, moment), times(dot(way, moment), way)))


def net_of(lot):
    """Return the one screw of whose net all rods of the lot are."""
    check_lot(lot)
    screws = rows_met_by(lot)
    if len(screws) != 1:
        raise NotJustOne()
    return screws[0]


def flat_form(screw, other):
    """Return the three products of two unlike screws, which tell the flat sums of multiples of both."""
    check_screws(screw, other)
    if screw == other:
        raise Same()
    return row_product(screw, screw), row_product(screw, other), row_product(other, other)


def flats_count(screw, other):
    """Return how many flat rows are sums of multiples of both: 0, 1, 2 or the word for endless ones."""
    first, mixed, last = flat_form(screw, other)
    return pairs_count(first, mixed, last)


def told_flats(screw, other):
    """Return the ascending tuple of those told by whole numbers, None if they are endless."""
    first, mixed, last = flat_form(screw, other)
    pairs = told_pairs(first, mixed, last)
    if pairs is None:
        return None
    return tuple(sorted([reduced(combined(pair, (screw, other))) for pair in pairs]))
