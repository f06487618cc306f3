"""Grids: rows of as many rows of whole numbers."""

from stringrods.rows import dot


def determinant(grid):
    """Return the determinant of a grid."""
    if len(grid) == 1:
        return grid[0][0]
    return dot(grid[0], [cofactor(grid, 0, at) for at in range(len(grid))])


def cofactor(grid, down, across):
    """Return the determinant without a row and a column, with its sign."""
    rows = [row for at, row in enumerate(grid) if at != down]
    part = determinant([row[:across] + row[across + 1:] for row in rows])
    return -part if (down + across) % 2 == 1 else part


def cofactors(grid):
    """Return the grid of the cofactors."""
    places = list(range(len(grid)))
    return tuple([tuple([cofactor(grid, down, across) for across in places]) for down in places])


def turned_over(grid):
    """Return the grid with its rows as columns."""
    return tuple([tuple([row[at] for row in grid]) for at in range(len(grid[0]))])


def led(grid, row):
    """Return the sums of the products of the grid's rows with the row."""
    return tuple([dot(line, row) for line in grid])
