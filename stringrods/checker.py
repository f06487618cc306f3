"""The checker: whether a claim is so, and a paper is one of its papers."""

from math import lcm

from stringrods.alikes import are_alike, factors, is_tie_of_one, parts_round, products_of
from stringrods.cubics import all_rods, cubic_at, has_rod, stars
from stringrods.errors import RodError
from stringrods.gaps import gap, rod_gap
from stringrods.legs import freedom, is_loose
from stringrods.lots import all_meet, check_lot, meeters_count
from stringrods.ratios import check_ratio, is_below, is_fraction
from stringrods.rings import in_ring, keeps_off
from stringrods.rods import do_meet, hand, is_rod, on_rod
from stringrods.rows import combined, is_whole, times
from stringrods.screws import check_screw, screw_product
from stringrods.sixes import are_six
from stringrods.spaces import is_point
from stringrods.surfaces import surface_kind
from stringrods.tables import is_rigid

# Each function below is told the parts of a claim behind its word, as many as there are to be. What
# is wrong in them, or in a paper, is either asked for ahead or raises one of this package's errors;
# nothing is compared with a number before it is sure to be one.


def is_tuple_of(value, length):
    """Tell whether a value, whatever it is, is a tuple of this length."""
    return isinstance(value, tuple) and len(value) == length


def is_empty(paper):
    """Tell whether the paper is the one of claims that need none."""
    return is_tuple_of(paper, 0)


def is_told(value, told):
    """Tell whether a value, whatever it is, is the told whole number or text."""
    if isinstance(told, str):
        return isinstance(value, str) and value == told
    return is_whole(value) and value == told


def are_whole(value, length):
    """Tell whether a value, whatever it is, is a tuple of so many whole numbers."""
    return is_tuple_of(value, length) and all([is_whole(number) for number in value])


def are_fractions(value, length):
    """Tell whether a value, whatever it is, is a tuple of so many fractions."""
    return is_tuple_of(value, length) and all([is_fraction(number) for number in value])


def meet_is_so(parts, paper):
    """Check `meet`."""
    rod, other = parts
    return on_rod(paper, rod) and on_rod(paper, other)


def apart_is_so(parts, paper):
    """Check `apart`."""
    rod, other = parts
    return is_empty(paper) and not do_meet(rod, other)


def hand_is_so(parts, paper):
    """Check `hand`."""
    rod, other, third, sign = parts
    return is_empty(paper) and is_told(sign, hand(rod, other, third))


def meeters_is_so(parts, paper):
    """Check `meeters`."""
    lot, count = parts
    return is_empty(paper) and is_told(count, meeters_count(lot))


def all_meet_is_so(parts, paper):
    """Check `all meet`."""
    lot, rod = parts
    return is_empty(paper) and all_meet(lot, rod)


def passes_is_so(parts, paper):
    """Check `passes`."""
    lot, rod = parts
    return is_loose(lot, paper) and not do_meet(paper, rod)


def of_ring_is_so(parts, paper):
    """Check `of ring`."""
    rod, other, third, fourth = parts
    return is_empty(paper) and in_ring(rod, other, third, fourth)


def not_of_ring_is_so(parts, paper):
    """Check `not of ring`."""
    rod, other, third, fourth = parts
    return is_empty(paper) and not in_ring(rod, other, third, fourth)


def keeps_off_is_so(parts, paper):
    """Check `keeps off`."""
    rod, other, third, point, fraction = parts
    return is_empty(paper) and keeps_off(rod, other, third, point, fraction)


def comes_near_is_so(parts, paper):
    """Check `comes near`."""
    rod, other, third, point, fraction = parts
    check_ratio(fraction)
    return in_ring(rod, other, third, paper) and is_below(rod_gap(paper, point), fraction)


def kind_is_so(parts, paper):
    """Check `kind`."""
    surface, word = parts
    return is_empty(paper) and is_told(word, surface_kind(surface))


def loose_is_so(parts, paper):
    """Check `loose`."""
    return is_loose(parts[0], paper)


def fast_is_so(parts, paper):
    """Check `fast`."""
    return is_empty(paper) and freedom(parts[0]) == 0


def borne_is_so(parts, paper):
    """Check `borne`."""
    lot, screw = parts
    check_lot(lot)
    check_screw(screw)
    if not are_fractions(paper, len(lot)):
        return False
    common = 1
    for pair in paper:
        common = lcm(common, pair[1])
    numbers = [pair[0] * (common // pair[1]) for pair in paper]
    return combined(numbers, lot) == times(common, screw)


def not_borne_is_so(parts, paper):
    """Check `not borne`."""
    lot, screw = parts
    return is_loose(lot, paper) and screw_product(paper, screw) != 0


def alike_is_so(parts, paper):
    """Check `alike`."""
    lot, other = parts
    if not are_alike(lot, other) or not is_tuple_of(paper, 2):
        return False
    # A pair of fractions and no whole numbers alone: True is no 1 here.
    return is_fraction(paper[0]) and are_fractions(paper[1], len(lot)) and paper == factors(lot, other)


def unlike_is_so(parts, paper):
    """Check `unlike`."""
    lot, other = parts
    if factors(lot, other) is not None:
        return are_whole(paper, len(lot)) and is_tie_of_one(lot, other, paper)
    if not are_whole(paper, 4) or min(paper) < 0 or max(paper) >= len(lot) or len(set(paper)) < 4:
        return False
    return parts_round(products_of(lot), products_of(other), paper)


def six_is_so(parts, paper):
    """Check `six`."""
    rods, others = parts
    return is_empty(paper) and are_six(rods, others)


def on_cubic_is_so(parts, paper):
    """Check `on cubic`."""
    cubic, rod = parts
    return is_empty(paper) and has_rod(cubic, rod)


def off_cubic_is_so(parts, paper):
    """Check `off cubic`."""
    cubic, rod = parts
    return on_rod(paper, rod) and cubic_at(cubic, paper) != 0


def star_is_so(parts, paper):
    """Check `star`."""
    rods, others, point = parts
    return is_empty(paper) and is_point(point) and point in stars(rods, others)


def one_of_all_is_so(parts, paper):
    """Check `one of all`."""
    rods, others, rod = parts
    return is_empty(paper) and is_rod(rod) and rod in all_rods(rods, others)


def gap_is_so(parts, paper):
    """Check `gap`."""
    rod, other, fraction = parts
    return is_empty(paper) and is_fraction(fraction) and fraction == gap(rod, other)


def rigid_is_so(parts, paper):
    """Check `rigid`."""
    return is_empty(paper) and is_rigid(parts[0])


CHECKS = {
    "meet": meet_is_so, "apart": apart_is_so, "hand": hand_is_so, "meeters": meeters_is_so,
    "all meet": all_meet_is_so, "passes": passes_is_so, "of ring": of_ring_is_so, "not of ring": not_of_ring_is_so,
    "keeps off": keeps_off_is_so, "comes near": comes_near_is_so, "kind": kind_is_so, "loose": loose_is_so,
    "fast": fast_is_so, "borne": borne_is_so, "not borne": not_borne_is_so, "alike": alike_is_so,
    "unlike": unlike_is_so, "six": six_is_so, "on cubic": on_cubic_is_so, "off cubic": off_cubic_is_so,
    "star": star_is_so, "one of all": one_of_all_is_so, "gap": gap_is_so, "rigid": rigid_is_so,
}
# How many parts stand behind the word of each claim.
PARTS = {
    "meet": 2, "apart": 2, "hand": 4, "meeters": 2, "all meet": 2, "passes": 2, "of ring": 4, "not of ring": 4,
    "keeps off": 5, "comes near": 5, "kind": 2, "loose": 1, "fast": 1, "borne": 2, "not borne": 2, "alike": 2,
    "unlike": 2, "six": 2, "on cubic": 2, "off cubic": 2, "star": 3, "one of all": 3, "gap": 3, "rigid": 1,
}


def accepts(claim, paper):
    """Tell whether the claim, whatever it is, is a claim that is so, and the paper one of its papers."""
    if not isinstance(claim, tuple) or len(claim) == 0 or not isinstance(claim[0], str):
        return False
    word, parts = claim[0], claim[1:]
    if word not in PARTS or len(parts) != PARTS[word]:
        return False
    check = CHECKS[word]
    try:
        return check(parts, paper)
    except RodError:
        return False
