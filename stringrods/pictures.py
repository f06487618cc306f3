"""Maps of the rows of six numbers that keep products but for one factor, and the tables that they are made by."""

from math import isqrt

from stringrods.legs import ties_of
from stringrods.rods import (
    CORNERS, UNIT_RODS, meeting_plane, meeting_point, on_rod, row_product, rows_met_by, swapped,
)
from stringrods.rows import combined, minus, reduced, times
from stringrods.spaces import join
from stringrods.stairs import rank_of, room_of
from stringrods.tables import as_table, corner_grid

# Five points, no four of them in one plane.
FIVE_POINTS = ((1, 0, 0, 0), (0, 1, 0, 0), (0, 0, 1, 0), (0, 0, 0, 1), (1, 1, 1, 1))


def free_indexes(rows):
    """Return the indexes of the rows that are no sums of multiples of those ahead of them."""
    picked = []
    for index in range(len(rows)):
        if rank_of([rows[at] for at in picked + [index]]) > len(picked):
            picked.append(index)
    return picked


def across_net(sources, targets, growth):
    """Return the pairs of a sixth source and its target, for five rows with one row each that all have the product 0.

    The products of the targets are those of the sources times the growth. The sixth row must
    keep the growth, too; a flat one hangs on the five, so another sixth row stands in for it.
    """
    net, there = rows_met_by(sources)[0], rows_met_by(targets)[0]
    if row_product(net, net) != 0:
        own = row_product(there, there)
        size = isqrt(growth * row_product(net, net) * own)
        return [(times(own, net), times(size, there)), (times(own, net), times(-size, there))]
    sixth = [unit for unit in UNIT_RODS if row_product(unit, net) != 0][0]
    lines = []
    for source, target in zip(sources, targets):
        lines.append(swapped(target) + (-growth * row_product(source, sixth),))
    # Up to multiples of the flat row, five products tell what the sixth row goes to.
    row = [line for line in room_of(lines) if line[6] != 0][0]
    start, mixed = row[:6], 2 * row_product(row[:6], there)
    flat = minus(times(mixed, start), times(row_product(start, start), there))
    return [(times(row[6] * mixed, sixth), flat)]


def maps_by(rows, others, growth):
    """Return the pairs of six sources and their targets, of which each makes a map that leads all rows to the others.

    The rank of the rows is 5 or 6, they and the others have the same ties, and the products of
    the others are those of the rows times the growth.
    """
    picked = free_indexes(rows)
    sources = tuple([rows[index] for index in picked])
    targets = tuple([others[index] for index in picked])
    if len(picked) == 6:
        return [(sources, targets)]
    return [(sources + (source,), targets + (target,)) for source, target in across_net(sources, targets, growth)]


def picture(sources, targets, rod):
    """Return the rod to which the map leads the rod."""
    way = ties_of(sources + (rod,))[0]
    return reduced(combined(way[:6], targets))


def pictures_through(sources, targets, point):
    """Return the rods to which the map leads three rods through the point that lie in no one plane."""
    rods = [join(point, corner) for corner in CORNERS if corner != point]
    return [picture(sources, targets, rod) for rod in rods[:3]]


def table_of(sources, targets):
    """Return whether the map leads points to points, not to planes, and its table."""
    first, second, third = pictures_through(sources, targets, CORNERS[0])
    to_points = on_rod(meeting_point(first, second), third)
    ends = []
    for point in FIVE_POINTS:
        first, second, third = pictures_through(sources, targets, point)
        ends.append(meeting_point(first, second) if to_points else meeting_plane(first, second))
    return to_points, as_table(corner_grid(ends))
