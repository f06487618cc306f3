"""Lots of rods as legs of a board: how it can move, and what it bears."""

from stringrods.errors import NotJustOne
from stringrods.grids import turned_over
from stringrods.lots import check_lot
from stringrods.ratios import ratio
from stringrods.rods import row_product, rows_met_by
from stringrods.screws import check_screw
from stringrods.stairs import rank_of, room_of


def ties_of(rows):
    """Return the base in stairs of the whole numbers that, times the rows, add up to noughts."""
    return room_of(turned_over(rows))


def freedom(lot):
    """Return 6 less the rank of the legs."""
    check_lot(lot)
    return 6 - rank_of(lot)


def loose_screws(lot):
    """Return the base in stairs of all screws by which the board can move."""
    check_lot(lot)
    return rows_met_by(lot)


def is_loose(lot, screw):
    """Tell whether the board can move by the screw."""
    check_lot(lot)
    check_screw(screw)
    return all([row_product(rod, screw) == 0 for rod in lot])


def is_borne(lot, screw):
    """Tell whether some fractions, times the legs, add up to the screw."""
    check_lot(lot)
    check_screw(screw)
    return rank_of(lot + (screw,)) == rank_of(lot)


def borne(lot, screw):
    """Return the fractions that, times the legs, add up to the screw, None if it is not borne."""
    check_lot(lot)
    check_screw(screw)
    if rank_of(lot) < len(lot):
        raise NotJustOne()
    ways = ties_of(lot + (screw,))
    if not ways:
        return None
    # The legs do not hang together, so the screw has a number other than 0 in the one tie.
    last = ways[0][len(lot)]
    return tuple([ratio(-number, last) for number in ways[0][:len(lot)]])


def ties(lot):
    """Return the base in stairs of all ties of the legs."""
    check_lot(lot)
    return ties_of(lot)


def needless_legs(lot):
    """Return the ascending tuple of the indexes of the legs without which the freedom is the same."""
    check_lot(lot)
    held = ties_of(lot)
    return tuple([index for index in range(len(lot)) if any([way[index] != 0 for way in held])])
