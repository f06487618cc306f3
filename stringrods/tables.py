"""Tables: maps of space that lead points to points."""

from stringrods.errors import InvalidPoints, InvalidTable
from stringrods.grids import cofactors, determinant, led, turned_over
from stringrods.rods import check_rod
from stringrods.rows import dot, is_whole, reduced, times
from stringrods.screws import check_screw
from stringrods.spaces import check_plane, check_point, is_point
from stringrods.stairs import rank_of, room_of

# The places (row, column) of the six numbers of a rod in its four rows of four.
ROD_PLACES = ((0, 1), (0, 2), (0, 3), (2, 3), (3, 1), (1, 2))


def is_grid(value):
    """Tell whether a value, whatever it is, is a tuple of four rows of four whole numbers."""
    if not isinstance(value, tuple) or len(value) != 4:
        return False
    for row in value:
        if not isinstance(row, tuple) or len(row) != 4:
            return False
        if not all([is_whole(number) for number in row]):
            return False
    return True


def as_table(grid):
    """Return the table of a grid: its numbers reduced together."""
    numbers = reduced([number for row in grid for number in row])
    return tuple([numbers[4 * at:4 * at + 4] for at in range(4)])


def is_table(value):
    """Tell whether a value, whatever it is, is a table."""
    return is_grid(value) and determinant(value) != 0 and as_table(value) == value


def check_table(value):
    """Raise InvalidTable for what is no table."""
    if not is_table(value):
        raise InvalidTable(value)


def behind(grid, other):
    """Return the grid that leads as the first one does and then the other one."""
    columns = turned_over(grid)
    return tuple([led(columns, row) for row in other])


def back_grid(grid):
    """Return a grid that leads back, but for a factor."""
    return turned_over(cofactors(grid))


def point_by(table, point):
    """Return the point to which the table leads the point."""
    check_table(table)
    check_point(point)
    return reduced(led(table, point))


def plane_by(table, plane):
    """Return the plane of all points to which the table leads those of the plane."""
    check_table(table)
    check_plane(plane)
    # The point that is led, led back, lies in the plane: so the back table turned over leads planes.
    return reduced(led(cofactors(table), plane))


def row_by(table, row):
    """Return the six numbers, reduced, to which the table leads the six of a rod or a screw."""
    lines = [[0] * 4 for _ in range(4)]
    for (down, across), number in zip(ROD_PLACES, row):
        lines[down][across] = number
        lines[across][down] = -number
    numbers = []
    for down, across in ROD_PLACES:
        numbers.append(dot(led(lines, table[across]), table[down]))
    return reduced(numbers)


def rod_by(table, rod):
    """Return the rod to which the table leads the rod."""
    check_table(table)
    check_rod(rod)
    return row_by(table, rod)


def screw_by(table, screw):
    """Return the screw to which the table leads the screw."""
    check_table(table)
    check_screw(screw)
    return row_by(table, screw)


def followed(table, other):
    """Return the one table for the first table and then the other one."""
    check_table(table)
    check_table(other)
    return as_table(behind(table, other))


def back_table(table):
    """Return the table that leads back."""
    check_table(table)
    return as_table(back_grid(table))


def keeps_hands(table):
    """Tell whether the hand of all three rods apart from one another stays."""
    check_table(table)
    return determinant(table) > 0


def is_rigid(table):
    """Tell whether the table keeps far points far and the gaps of all other points."""
    check_table(table)
    size = table[0][0]
    if table[0] != (size, 0, 0, 0):
        return False
    rows = [row[1:] for row in table[1:]]
    for at, row in enumerate(rows):
        if dot(row, row) != size * size or any([dot(row, each) != 0 for each in rows[:at]]):
            return False
    return True


def is_spoilt(points, index):
    """Tell whether the point at the index is none, or is the same, in line or in one plane with points ahead."""
    if not is_point(points[index]):
        return True
    front = points[:index + 1]
    if index < 4:
        # The points ahead do not hang together, so this one would have to hang on them.
        return rank_of(front) < index + 1
    return 0 in room_of(turned_over(front))[0]


def check_five(value):
    """Raise InvalidPoints for what are no five points, no four of them in one plane."""
    if not isinstance(value, tuple) or len(value) != 5:
        raise InvalidPoints(None)
    for index in range(5):
        if is_spoilt(value, index):
            raise InvalidPoints(index)


def corner_grid(points):
    """Return the grid that leads the four corners to the first four points and their sum to the last one."""
    way = room_of(turned_over(points))[0]
    return turned_over([times(number, point) for number, point in zip(way[:4], points[:4])])


def five_to_five(points, others):
    """Return the table that leads each of five points to the other one with the same index."""
    check_five(points)
    check_five(others)
    return as_table(behind(back_grid(corner_grid(points)), corner_grid(others)))
