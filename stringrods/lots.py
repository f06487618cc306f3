"""Lots of rods, and the rods that meet all rods of a lot."""

from stringrods.errors import InvalidLot
from stringrods.forms import ENDLESS, squares_of, told_pairs
from stringrods.rods import check_rod, is_rod, points_of, row_product, rows_met_by, rows_through
from stringrods.rows import combined, minus, plus, reduced, times
from stringrods.stairs import rank_of

MOST_RODS = 8


def check_lot(value):
    """Raise InvalidLot for what is no lot."""
    if not isinstance(value, tuple):
        raise InvalidLot(None)
    if len(value) == 0:
        raise InvalidLot(0)
    for index, rod in enumerate(value[:MOST_RODS]):
        if not is_rod(rod):
            raise InvalidLot(index)
    if len(value) > MOST_RODS:
        raise InvalidLot(MOST_RODS)


def room_squares(lot):
    """Return pairs of a row and its product with itself: a base of the room W, each two with the product 0."""
    base = rows_met_by(lot)
    form = [tuple([row_product(row, other) for other in base]) for row in base]
    return [(combined(factors, base), value) for factors, value in squares_of(form)]


def parted(squares):
    """Return the lists of the pairs with values above 0, of those below 0, and of the rows with 0."""
    above = [(row, value) for row, value in squares if value > 0]
    below = [(row, value) for row, value in squares if value < 0]
    return above, below, [row for row, value in squares if value == 0]


def count_of(squares):
    """Return how many meeters there are, from the squares of the room."""
    above, below, level = parted(squares)
    if above and below:
        return 2 if (len(above), len(below), len(level)) == (1, 1, 0) else ENDLESS
    return len(level) if len(level) < 2 else ENDLESS


def told_between(upper, lower):
    """Return the rows told by fractions, with the product 0 with themselves, that one pair above and below make."""
    pairs = told_pairs(upper[1], 0, lower[1])
    return [combined(pair, (upper[0], lower[0])) for pair in pairs]


def known_meeters(lot, squares):
    """Return some meeters that are told by fractions: all of them if they are not endless.

    Of endless ones there are among them a base of the rows that have the product 0 with all
    of W and, if there are others, at least one of these.
    """
    above, below, level = parted(squares)
    rows = list(level)
    if len(above) == 1 and len(below) == 1:
        # Two meeters may be told or not; endless ones are told here, as the rods of the
        # lot then make two squares, too, which one above and one below must undo.
        rows = rows + told_between(above[0], below[0])
    elif above and below:
        # The rank is 3 at most, so a meeter goes through each point of the first rod.
        rows = rows + list(rows_through(lot, points_of(lot[0])[0]))
    return [reduced(row) for row in rows]


def rank(lot):
    """Return how many rods of the lot, at most, are no sums of multiples of the others."""
    check_lot(lot)
    return rank_of(lot)


def meeters_count(lot):
    """Return how many rods meet all of the lot: 0, 1, 2 or the word for endless ones."""
    check_lot(lot)
    return count_of(room_squares(lot))


def told_meeters(lot):
    """Return the ascending tuple of the meeters that are told by fractions, None if there are endless meeters."""
    check_lot(lot)
    squares = room_squares(lot)
    if count_of(squares) == ENDLESS:
        return None
    return tuple(sorted(known_meeters(lot, squares)))


def any_meeter(lot):
    """Return a meeter that is told by fractions, None if there is none."""
    check_lot(lot)
    known = known_meeters(lot, room_squares(lot))
    return known[0] if known else None


def all_meet(lot, rod):
    """Tell whether all meeters of the lot, told by fractions or not, meet the rod."""
    check_lot(lot)
    check_rod(rod)
    above, below, level = parted(room_squares(lot))
    if above and below:
        return rank_of(lot + (rod,)) == rank_of(lot)
    return all([row_product(row, rod) == 0 for row in level])


def mirrored(row, mirror):
    """Return the row turned by the mirror row, not reduced: its product with itself stays 0 if it is."""
    return minus(times(row_product(mirror, mirror), row), times(2 * row_product(row, mirror), mirror))


def passing_from(meeter, partner, lead, rod):
    """Return a meeter that does not meet the rod, made of one that does.

    The partner has a product other than 0 with the meeter, the lead one with the rod: so
    one of both, or their sum, has both, and the meeter turned by it does not meet the rod.
    """
    turned = [mirrored(meeter, mirror) for mirror in (partner, lead, plus(partner, lead))]
    return reduced([row for row in turned if row_product(row, rod) != 0][0])


def passing_meeter(lot, rod):
    """Return a meeter that is told by fractions and does not meet the rod, None if there is none."""
    check_lot(lot)
    check_rod(rod)
    squares = room_squares(lot)
    known = known_meeters(lot, squares)
    passing = [meeter for meeter in known if row_product(meeter, rod) != 0]
    if passing:
        return passing[0]
    rows = [row for row, _ in squares]
    leads = [row for row in rows if row_product(row, rod) != 0]
    starts = [(meeter, row) for meeter in known for row in rows if row_product(meeter, row) != 0]
    if not leads or not starts:
        return None
    meeter, partner = starts[0]
    return passing_from(meeter, partner, leads[0], rod)
