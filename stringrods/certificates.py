"""Certificates: claims that are so, with their papers."""

from stringrods.alikes import are_alike, factors, parting_round, parting_ties
from stringrods.cubics import check_cubic, check_sixes, four_points, rods_of, stars, sum_at
from stringrods.errors import InvalidIndex, NotRigid, NotTold
from stringrods.gaps import gap
from stringrods.legs import is_borne, loose_screws, ties_of
from stringrods.lots import all_meet, meeters_count, passing_meeter
from stringrods.ratios import ratio
from stringrods.rings import in_ring, near_rod
from stringrods.rods import check_rod, do_meet, hand, meeting_point, points_of, row_product
from stringrods.rows import is_whole, reduced
from stringrods.sixes import check_double_six, check_two_sixes
from stringrods.surfaces import surface_kind
from stringrods.tables import is_rigid

MANY_RODS = 27


def certify_meeting(rod, other):
    """Return whether two rods meet, with a point on both."""
    if not do_meet(rod, other):
        return (("apart", rod, other), ())
    point = points_of(rod)[0] if rod == other else meeting_point(rod, other)
    return (("meet", rod, other), point)


def certify_hand(rod, other, third):
    """Return the hand of three rods."""
    return (("hand", rod, other, third, hand(rod, other, third)), ())


def certify_meeters(lot):
    """Return how many rods meet all of the lot."""
    return (("meeters", lot, meeters_count(lot)), ())


def certify_all_meet(lot, rod):
    """Return whether all meeters of the lot meet the rod, with one that does not."""
    if all_meet(lot, rod):
        return (("all meet", lot, rod), ())
    passing = passing_meeter(lot, rod)
    if passing is None:
        raise NotTold()
    return (("passes", lot, rod), passing)


def certify_ring(rod, other, third, fourth):
    """Return whether the fourth rod is of the ring of the first three."""
    word = "of ring" if in_ring(rod, other, third, fourth) else "not of ring"
    return ((word, rod, other, third, fourth), ())


def certify_off(rod, other, third, point, fraction):
    """Return whether the ring keeps off the point, with a rod that does not."""
    near = near_rod(rod, other, third, point, fraction)
    if near is None:
        return (("keeps off", rod, other, third, point, fraction), ())
    return (("comes near", rod, other, third, point, fraction), near)


def certify_kind(surface):
    """Return the kind of the surface."""
    return (("kind", surface, surface_kind(surface)), ())


def certify_loose(lot):
    """Return whether a board on these legs can move, with a loose screw."""
    screws = loose_screws(lot)
    if not screws:
        return (("fast", lot), ())
    return (("loose", lot), screws[0])


def certify_borne(lot, screw):
    """Return whether the screw is borne, with fractions that tell it, or a loose screw against it."""
    if not is_borne(lot, screw):
        against = [each for each in loose_screws(lot) if row_product(each, screw) != 0]
        return (("not borne", lot, screw), against[0])
    # The legs may hang together by themselves: a tie with the screw in it is needed.
    way = [each for each in ties_of(lot + (screw,)) if each[len(lot)] != 0][0]
    told = tuple([ratio(-number, way[len(lot)]) for number in way[:len(lot)]])
    return (("borne", lot, screw), told)


def certify_alike(lot, other):
    """Return whether two lots are alike, with their factors, or with what parts them."""
    if are_alike(lot, other):
        return (("alike", lot, other), factors(lot, other))
    paper = parting_round(lot, other)
    if paper is None:
        paper = parting_ties(lot, other)
    return (("unlike", lot, other), paper)


def certify_six(rods, others):
    """Return that two sixes of rods are a double six."""
    check_sixes(rods, others)
    return (("six", rods, others), ())


def certify_cubic(cubic, rod):
    """Return whether the rod is on the cubic, with a point of it that is not."""
    check_cubic(cubic)
    check_rod(rod)
    beside = [point for point in four_points(rod) if sum_at(cubic, point) != 0]
    if not beside:
        return (("on cubic", cubic, rod), ())
    return (("off cubic", cubic, rod), reduced(beside[0]))


def certify_stars(rods, others):
    """Return the tuple of the stars of a double six, each with its claim and paper."""
    return tuple([(("star", rods, others, point), ()) for point in stars(rods, others)])


def certify_one(rods, others, index):
    """Return the rod with the index among the 27 of a double six."""
    check_two_sixes(rods, others)
    if not is_whole(index) or index < 0 or index >= MANY_RODS:
        raise InvalidIndex(index)
    check_double_six(rods, others)
    return (("one of all", rods, others, rods_of(rods, others)[index]), ())


def certify_gap(rod, other):
    """Return the gap of two rods."""
    return (("gap", rod, other, gap(rod, other)), ())


def certify_rigid(table):
    """Return that the table is rigid."""
    if not is_rigid(table):
        raise NotRigid()
    return (("rigid", table), ())
