"""Double sixes: two sixes of rods of which two meet exactly if their indexes are unlike."""

from stringrods.errors import InvalidRods, NotSix
from stringrods.lots import told_meeters
from stringrods.rods import check_rod, is_rod, row_product
from stringrods.stairs import rank_of


def check_rod_tuple(value, many):
    """Raise InvalidRods for what is no tuple of so many rods."""
    if not isinstance(value, tuple):
        raise InvalidRods(None)
    for index, rod in enumerate(value[:many]):
        if not is_rod(rod):
            raise InvalidRods(index)
    if len(value) != many:
        raise InvalidRods(min(len(value), many))


def check_two_sixes(rods, others):
    """Raise InvalidRods for the first one of both that is no tuple of six rods."""
    check_rod_tuple(rods, 6)
    check_rod_tuple(others, 6)


def are_apart(rods):
    """Tell whether each two of the rods are apart."""
    for index, rod in enumerate(rods):
        if 0 in [row_product(rod, each) for each in rods[:index]]:
            return False
    return True


def other_meeter(four, rod):
    """Return the meeter, besides the rod, of four rods that do not hang together; raise NotSix if there is none."""
    # Four rods apart from one another, of the rank 4, do not have endless meeters: they would all
    # go through one point or lie in one plane. The rod is told, so the other one is, too.
    told = told_meeters(four)
    if len(told) != 2:
        raise NotSix()
    return told[1] if told[0] == rod else told[0]


def double_six(rod, rods):
    """Return the pair of the sixes that five rods and one that meets them make."""
    check_rod(rod)
    check_rod_tuple(rods, 5)
    if any([row_product(rod, each) != 0 for each in rods]):
        raise NotSix()
    if not are_apart(rods) or rank_of(rods) < 5:
        raise NotSix()
    others = tuple([other_meeter(rods[:at] + rods[at + 1:], rod) for at in range(5)])
    return (rods + told_meeters(others), others + (rod,))


def make_six(rods, others):
    """Tell whether two sixes of rods are a double six."""
    if not are_apart(rods) or not are_apart(others):
        return False
    for index, rod in enumerate(rods):
        for at, other in enumerate(others):
            if (row_product(rod, other) == 0) != (index != at):
                return False
    return True


def check_double_six(rods, others):
    """Raise NotSix if two sixes of rods are no double six."""
    if not make_six(rods, others):
        raise NotSix()


def are_six(rods, others):
    """Tell whether two sixes of rods are a double six."""
    check_two_sixes(rods, others)
    return make_six(rods, others)
