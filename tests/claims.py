"""Claims that are so, with papers, and another way of telling whether a pair is one of them."""

from fractions import Fraction
from math import gcd

from references import distance_square
from samples import HUGE, PLAIN, Grumpy, crossed_sum, nested
from shapes import (
    ACROSS, ALONG, AUGER, FIRST_SIX, GREAT, GREAT_SIX, MAPS, SIXES, TALL, TOWER, UPRIGHT, all_apart, led_rod,
    picked_lots, turned_rod,
)
from shops import FOUR, HIGH, LEFT, WAIST
from stringrods import alikes, cubics, gaps, legs, lots, rings, rods, screws, sixes, spaces, surfaces, tables


def is_list_of(value, many, test):
    return isinstance(value, tuple) and len(value) == many and all(test(each) for each in value)


def is_whole(value):
    return value.__class__ is int


def is_text(value):
    return value.__class__ is str


def is_pair(value):
    return is_list_of(value, 2, is_whole) and value[1] > 0 and gcd(*value) == 1


def is_from_0(value):
    return is_pair(value) and value[0] >= 0


def is_lot(value):
    return isinstance(value, tuple) and 1 <= len(value) <= 8 and all(rods.is_rod(each) for each in value)


def is_apart_lot(value):
    return is_lot(value) and len(value) >= 3 and all_apart(value)


def is_six_of_rods(value):
    return is_list_of(value, 6, rods.is_rod)


# What stands behind each word.
SORTS = {
    "meet": "rr", "apart": "rr", "hand": "rrrn", "meeters": "lc", "all meet": "lr", "passes": "lr", "of ring": "rrrr",
    "not of ring": "rrrr", "keeps off": "rrrpf", "comes near": "rrrpf", "kind": "qw", "loose": "l", "fast": "l",
    "borne": "ls", "not borne": "ls", "alike": "aa", "unlike": "aa", "six": "66", "on cubic": "3r", "off cubic": "3r",
    "star": "66p", "one of all": "66r", "gap": "rrg", "rigid": "t",
}
TESTS = {
    "r": rods.is_rod, "n": is_whole, "l": is_lot, "c": lambda value: is_whole(value) or is_text(value),
    "p": spaces.is_point, "f": is_from_0, "g": is_pair, "q": surfaces.is_surface, "w": is_text, "s": screws.is_screw,
    "a": is_apart_lot, "6": is_six_of_rods, "3": cubics.is_cubic, "t": tables.is_table,
}


def is_near(paper, three, point, fraction):
    if not rods.is_rod(paper) or not any(paper[:3]) or not rings.in_ring(*three, paper):
        return False
    return distance_square(paper, point) < Fraction(*fraction)


def adds_up(paper, lot, screw):
    if not is_list_of(paper, len(lot), is_pair):
        return False
    return [sum(Fraction(*pair) * rod[at] for pair, rod in zip(paper, lot)) for at in range(6)] == list(screw)


def parts_lots(paper, lot, other):
    told = alikes.factors(lot, other)
    if told is None:
        if not is_list_of(paper, 4, is_whole) or len(set(paper)) < 4 or not set(paper) <= set(range(len(lot))):
            return False
        a, b, c, d = paper
        sides = []
        for one, two in ((lot, other), (other, lot)):
            side = crossed_sum(one[a], one[b]) * crossed_sum(one[c], one[d])
            sides.append(side * crossed_sum(two[b], two[c]) * crossed_sum(two[d], two[a]))
        return sides[0] != sides[1]
    if not is_list_of(paper, len(lot), is_whole) or not any(paper):
        return False
    near = any(sum(k * rod[at] for k, rod in zip(paper, lot)) for at in range(6))
    there = any(sum(k * Fraction(*f) * rod[at] for k, f, rod in zip(paper, told[1], other)) for at in range(6))
    return near != there


def is_so(claim, paper):
    """[37], word by word: what stands there must be of its sort, then the claim so and the paper right."""
    if not isinstance(claim, tuple) or not claim or not is_text(claim[0]) or claim[0] not in SORTS:
        return False
    word, parts = claim[0], claim[1:]
    if len(parts) != len(SORTS[word]) or not all(TESTS[sort](part) for sort, part in zip(SORTS[word], parts)):
        return False
    empty = paper.__class__ is tuple and len(paper) == 0
    one, two = parts[0], parts[1] if len(parts) > 1 else None
    three = parts[:3]
    if SORTS[word][:3] == "rrr" and not all_apart(three):
        return False
    if SORTS[word] == "rrrpf" and parts[3][0] == 0:
        return False
    if word == "meet":
        return spaces.is_point(paper) and rods.on_rod(paper, one) and rods.on_rod(paper, two)
    if word == "passes":
        return rods.is_rod(paper) and not any(crossed_sum(paper, rod) for rod in one) and crossed_sum(paper, two) != 0
    if word == "comes near":
        return is_near(paper, three, parts[3], parts[4])
    if word == "loose":
        return screws.is_screw(paper) and not any(crossed_sum(paper, rod) for rod in one)
    if word == "borne":
        return adds_up(paper, one, two)
    if word == "not borne":
        loose = screws.is_screw(paper) and not any(crossed_sum(paper, rod) for rod in one)
        return loose and crossed_sum(paper, two) != 0
    if word == "alike":
        good = is_list_of(paper, 2, lambda part: isinstance(part, tuple)) and is_pair(paper[0])
        good = good and len(one) == len(two) and is_list_of(paper[1], len(one), is_pair)
        return good and alikes.are_alike(one, two) and alikes.factors(one, two) == paper
    if word == "unlike":
        return len(one) == len(two) and parts_lots(paper, one, two)
    if word == "off cubic":
        return spaces.is_point(paper) and rods.on_rod(paper, two) and cubics.cubic_at(one, paper) != 0
    if not empty:
        return False
    if word in ("star", "one of all") and not sixes.are_six(one, two):
        return False
    if word == "gap" and not (any(one[:3]) and any(two[:3])):
        return False
    return {
        "apart": lambda: crossed_sum(one, two) != 0, "hand": lambda: rods.hand(*three) == parts[3],
        "meeters": lambda: lots.meeters_count(one) == two, "all meet": lambda: lots.all_meet(one, two),
        "of ring": lambda: rings.in_ring(*parts), "not of ring": lambda: not rings.in_ring(*parts),
        "keeps off": lambda: rings.keeps_off(*parts), "kind": lambda: surfaces.surface_kind(one) == two,
        "fast": lambda: lots.rank(one) == 6, "six": lambda: sixes.are_six(one, two),
        "on cubic": lambda: cubics.has_rod(one, two), "star": lambda: parts[2] in cubics.stars(one, two),
        "one of all": lambda: parts[2] in cubics.all_rods(one, two), "gap": lambda: gaps.gap(one, two) == parts[2],
        "rigid": lambda: tables.is_rigid(one),
    }[word]()


MAST, FAR = (0, 0, 1, 1, -1, 0), (0, 0, 0, 0, 0, 1)
CORNER = (ACROSS, ALONG, UPRIGHT)
SIX_LEGS = CORNER + ((0, 1, 0, -1, 0, 0), (0, 0, 1, 0, -1, 0), (1, 0, 0, 0, 0, -1))
TOUCHED = (UPRIGHT, (1, 0, 1, 0, 0, 0), (0, 1, 1, 0, -1, 1), (0, 1, -1, 0, -1, -1))
FREE = (UPRIGHT, (1, 0, 1, -1, 0, 1), (0, 1, 1, 0, -1, 1), (1, 1, 2, -1, -1, 1))
RIM, PUSH = (0, 0, 0, 0, 0, 1), (1, 2, 0, 0, 0, 0)
SLANT = (1, 1, 0, 0, 0, 0)
APART = picked_lots(None, 5, 5, 1, 371)[0]
LED, TURNED = tuple(led_rod(MAPS[4], rod) for rod in APART), tuple(turned_rod(MAPS[5], rod) for rod in APART)
PARTED = led_rod(MAPS[6], APART[0]), *APART[1:]
HANGING = tuple(((0, 1, at, 0, -at * at, at) if at else ALONG) for at in range(5))
SLID = HANGING[:4] + ((1, 1, 4, 0, -16, 4),)
BODY = cubics.cubic_through(*FIRST_SIX)
WHOLE = cubics.all_rods(*FIRST_SIX)
TURN = ((5, 0, 0, 0), (5, 3, -4, 0), (10, 4, 3, 0), (15, 0, 0, 5))
GREAT_RODS = tuple(led_rod(GREAT, rod) for rod in (ACROSS, HIGH, MAST))

# Pairs that are so, some claims with several papers.
GOOD = [
    (("meet", ACROSS, ALONG), (1, 0, 0, 0)), (("meet", ALONG, HIGH), (0, 0, 1, 0)),
    (("meet", ACROSS, ACROSS), (1, 5, 0, 0)), (("meet", ACROSS, ACROSS), (0, 1, 0, 0)),
    (("meet", ACROSS, ACROSS), (3, HUGE, 0, 0)), (("meet", FAR, ALONG), (0, 0, 1, 0)),
    (("apart", ACROSS, HIGH), ()), (("apart", GREAT_RODS[0], GREAT_RODS[1]), ()), (("apart", FAR, UPRIGHT), ()),
    (("hand", ACROSS, HIGH, MAST, 1), ()), (("hand", MAST, ACROSS, HIGH, 1), ()),
    (("hand", TOWER[0], TOWER[1], TOWER[2], rods.hand(*TOWER)), ()),
    (("hand",) + tuple(led_rod(MAPS[2], rod) for rod in (ACROSS, HIGH, MAST)) + (-1,), ()),
    (("meeters", FOUR, 2), ()), (("meeters", FREE, 0), ()), (("meeters", TOUCHED, 1), ()),
    (("meeters", CORNER, "endless"), ()), (("meeters", SIX_LEGS, 0), ()), (("meeters", (ACROSS,) * 8, "endless"), ()),
    (("all meet", FOUR, ALONG), ()), (("all meet", FREE, MAST), ()), (("all meet", TOUCHED, ALONG), ()),
    (("all meet", (ACROSS,), ACROSS), ()), (("all meet", CORNER, SLANT), ()),
    (("passes", FOUR, MAST), ACROSS), (("passes", (ACROSS,), ALONG), (0, 0, 1, 0, -1, 0)),
    (("passes", (ACROSS,), HIGH), ACROSS), (("passes", (ACROSS,), HIGH), (1, 5, 0, 0, 0, 0)),
    (("passes", CORNER, HIGH), ACROSS),
    (("of ring",) + TOWER + ((1, 0, 1, -1, 0, 1),), ()), (("of ring",) + TOWER + (TOWER[2],), ()),
    (("not of ring",) + TOWER + ((0, 1, -1, 0, 1, 1),), ()), (("not of ring",) + GREAT_RODS + (ACROSS,), ()),
    (("keeps off",) + TOWER + ((1, 0, 0, 0), (1, 1)), ()), (("keeps off",) + TOWER + ((1, 1, 0, 0), (0, 1)), ()),
    (("comes near",) + TOWER + ((1, 0, 0, 0), (10, 9)), TOWER[0]),
    (("comes near",) + TOWER + ((1, 0, 0, 0), (10, 9)), (4, -3, 5, -4, 3, 5)),
    (("comes near",) + TOWER + ((1, 1, 0, 0), (1, 9)), TOWER[0]),
    (("kind", WAIST, "waist"), ()), (("kind", (0, 0, 0, 1, 0, -1, 0, 0, 0, 0), "saddle"), ()),
    (("kind", (1,) + (0,) * 9, "plane"), ()),
    (("loose", CORNER), ACROSS), (("loose", CORNER), (1, 2, -3, 0, 0, 0)),
    (("loose", (UPRIGHT,)), AUGER[:2] + (1, 1, 1, 0)),
    (("loose", (UPRIGHT, UPRIGHT)), FAR[:3] + (1, -1, 0)), (("fast", SIX_LEGS), ()),
    (("fast", SIX_LEGS + (RIM, RIM)), ()),
    (("borne", CORNER, PUSH), ((1, 1), (2, 1), (0, 1))),
    (("borne", CORNER + (SLANT,), PUSH), ((1, 1), (2, 1), (0, 1), (0, 1))),
    (("borne", CORNER + (SLANT,), PUSH), ((0, 1), (1, 1), (0, 1), (1, 1))),
    (("borne", CORNER + (SLANT,), PUSH), ((1, 2), (3, 2), (0, 1), (1, 2))),
    (("borne", SIX_LEGS, RIM), legs.borne(SIX_LEGS, RIM)),
    (("borne", CORNER + (SLANT,), PUSH), ((1 - HUGE, 1), (2 - HUGE, 1), (0, 1), (HUGE, 1))),
    (("borne", (UPRIGHT, UPRIGHT), UPRIGHT), ((-1, 3), (4, 3))),
    (("borne", (SLANT, (1, -1, 0, 0, 0, 0)), ALONG), ((1, 2), (-1, 2))),
    (("not borne", CORNER, RIM), UPRIGHT), (("not borne", CORNER, AUGER), (1, 2, 3, 0, 0, 0)),
    (("not borne", (UPRIGHT,), ACROSS), (0, 0, 0, 1, 0, 0)), (("not borne", (UPRIGHT,), ACROSS), (0, 0, 1, 1, 0, 0)),
    (("alike", APART, LED), alikes.factors(APART, LED)), (("alike", APART, TURNED), alikes.factors(APART, TURNED)),
    (("alike", APART, APART), ((1, 1), ((1, 1),) * 5)),
    (("alike", APART[:3], PARTED[:3]), alikes.factors(APART[:3], PARTED[:3])),
    (("unlike", APART, PARTED), alikes.parting_round(APART, PARTED)),
    (("unlike", APART, APART[::-1]), alikes.parting_round(APART, APART[::-1])),
    (("unlike", HANGING, SLID), alikes.parting_ties(HANGING, SLID)),
    (("unlike", SLID, HANGING), alikes.parting_ties(SLID, HANGING)),
    (("unlike", HANGING, SLID), tuple(-7 * number for number in alikes.parting_ties(HANGING, SLID))),
    (("six",) + FIRST_SIX, ()), (("six",) + FIRST_SIX[::-1], ()), (("six",) + GREAT_SIX, ()),
    (("on cubic", BODY, ACROSS), ()), (("on cubic", BODY, WHOLE[26]), ()), (("off cubic", BODY, ALONG), (1, 0, 1, 0)),
    (("off cubic", BODY, ALONG), (1, 0, -1, 0)), (("off cubic", BODY, ALONG), (3, 0, -7, 0)),
    (("star",) + FIRST_SIX + ((1, 0, -4, 4),), ()), (("one of all",) + FIRST_SIX + (ACROSS,), ()),
    (("one of all",) + SIXES[1] + (cubics.all_rods(*SIXES[1])[17],), ()),
    (("gap", ACROSS, HIGH, (1, 1)), ()), (("gap", ACROSS, (1, 0, 0, 0, 0, -2), (4, 1)), ()),
    (("gap", LEFT, LEFT, (0, 1)), ()),
    (("gap", GREAT_RODS[0], GREAT_RODS[2], gaps.gap(GREAT_RODS[0], GREAT_RODS[2])), ()),
    (("rigid", PLAIN), ()), (("rigid", TURN), ()), (("rigid", MAPS[1]), ()),
]

# Pairs that are none, each for a reason of its own.
BAD = [
    (("meet", ACROSS, HIGH), (1, 0, 0, 0)), (("meet", ACROSS, HIGH), ()), (("meet", ACROSS, ALONG), (1, 1, 0, 0)),
    (("meet", ACROSS, ALONG), (2, 0, 0, 0)), (("meet", ACROSS, ALONG), (-1, 0, 0, 0)), (("meet", ACROSS, ALONG), ()),
    (("apart", ACROSS, ALONG), ()), (("apart", ACROSS, ACROSS), ()), (("apart", ACROSS, HIGH), None),
    (("apart", ACROSS, HIGH), []), (("apart", ACROSS, HIGH), ((),)), (("apart", ACROSS, HIGH), (1, 0, 0, 0)),
    (("hand", ACROSS, HIGH, MAST, -1), ()), (("hand", ACROSS, HIGH, MAST, True), ()),
    (("hand", ACROSS, HIGH, MAST, 0), ()),
    (("hand", ACROSS, ALONG, MAST, 1), ()), (("hand", ACROSS, ACROSS, HIGH, 1), ()),
    (("hand", ACROSS, HIGH, MAST, "1"), ()),
    (("hand", ACROSS, HIGH, MAST, (1,)), ()), (("hand", ACROSS, HIGH, MAST, HUGE), ()),
    (("hand", ACROSS, HIGH, MAST, 1), (1,)),
    (("meeters", FOUR, 1), ()), (("meeters", FOUR, "2"), ()), (("meeters", FOUR, "endless"), ()),
    (("meeters", FOUR, 3), ()),
    (("meeters", TOUCHED, True), ()), (("meeters", FREE, False), ()), (("meeters", CORNER, 2), ()),
    (("meeters", CORNER, "Endless"), ()), (("meeters", CORNER, None), ()), (("meeters", (), 0), ()),
    (("meeters", CORNER * 3, "endless"), ()), (("meeters", list(FOUR), 2), ()), (("meeters", FREE, -1), ()),
    (("all meet", FOUR, MAST), ()), (("all meet", FOUR, MAST), ACROSS), (("all meet", FOUR, ALONG), ACROSS),
    (("passes", FOUR, MAST), HIGH[:5] + (1,)), (("passes", FOUR, ALONG), ACROSS), (("passes", FOUR, MAST), ()),
    (("passes", FOUR, MAST), ALONG), (("passes", FREE, MAST), MAST), (("passes", CORNER, HIGH), (1, 2, 3, 1, 0, 0)),
    (("of ring",) + TOWER + ((0, 1, -1, 0, 1, 1),), ()), (("not of ring",) + TOWER + ((1, 0, 1, -1, 0, 1),), ()),
    (("of ring", ACROSS, ALONG, HIGH, HIGH), ()), (("not of ring", ACROSS, ALONG, HIGH, MAST), ()),
    (("of ring",) + TOWER + (TOWER[0],), TOWER[0]), (("not of ring",) + TOWER + (ACROSS,), (0,)),
    (("keeps off",) + TOWER + ((1, 0, 0, 0), (10, 9)), ()), (("keeps off",) + TOWER + ((0, 1, 0, 0), (0, 1)), ()),
    (("keeps off",) + TOWER + ((1, 0, 0, 0), (2, 2)), ()), (("keeps off",) + TOWER + ((1, 0, 0, 0), (-1, 1)), ()),
    (("keeps off",) + TOWER + ((1, 0, 0, 0), (1, True)), ()), (("keeps off",) + TOWER + ((1, 0, 0, 0), 1), ()),
    (("keeps off", ACROSS, ALONG, HIGH, (1, 0, 0, 0), (0, 1)), ()),
    (("comes near",) + TOWER + ((1, 0, 0, 0), (1, 1)), TOWER[0]),
    (("comes near",) + TOWER + ((1, 0, 0, 0), (10, 9)), (0, 1, -1, 0, 1, 1)),
    (("comes near",) + TOWER + ((1, 0, 0, 0), (10, 9)), ()),
    (("comes near",) + TOWER + ((1, 1, 0, 0), (1, 9)), TOWER[2]),
    (("comes near",) + TOWER + ((0, 1, 0, 0), (9, 1)), TOWER[0]),
    (("comes near",) + TOWER + ((1, 0, 0, 0), (20, 9)), ACROSS),
    (("comes near", ACROSS, ALONG, HIGH, (1, 0, 0, 0), (9, 1)), ACROSS),
    (("kind", WAIST, "saddle"), ()), (("kind", WAIST, "Waist"), ()), (("kind", WAIST, 1), ()),
    (("kind", (0,) * 10, "nothing"), ()),
    (("kind", WAIST, ("waist",)), ()), (("kind", WAIST, b"waist"), ()), (("kind", WAIST, "waist"), "waist"),
    (("loose", SIX_LEGS), ACROSS), (("loose", CORNER), FAR), (("loose", CORNER), ()),
    (("loose", CORNER), (2, 0, 0, 0, 0, 0)),
    (("loose", CORNER), (0,) * 6), (("loose", CORNER), (ACROSS,)), (("fast", CORNER), ()), (("fast", SIX_LEGS), ACROSS),
    (("fast", ()), ()), (("fast", SIX_LEGS[:5]), ()), (("fast", SIX_LEGS + (RIM,) * 3), ()),
    (("borne", CORNER, PUSH), ((1, 1), (2, 1))), (("borne", CORNER, PUSH), ((1, 1), (2, 1), (0, 1), (0, 1))),
    (("borne", CORNER, PUSH), ((2, 2), (2, 1), (0, 1))), (("borne", CORNER, PUSH), ((1, 1), (2, 1), (0, 2))),
    (("borne", CORNER, PUSH), ((-1, -1), (2, 1), (0, 1))), (("borne", CORNER, PUSH), (1, 2, 0)),
    (("borne", CORNER, PUSH), ()),
    (("borne", CORNER, PUSH), ((True, 1), (2, 1), (0, 1))), (("borne", CORNER, PUSH), ((1, 1), (2, True), (0, 1))),
    (("borne", CORNER, PUSH), ((2, 1), (4, 1), (0, 1))), (("borne", CORNER, PUSH), ((-1, 1), (-2, 1), (0, 1))),
    (("borne", CORNER, RIM), ((0, 1), (0, 1), (0, 1))), (("borne", CORNER, RIM), UPRIGHT),
    (("borne", CORNER, (0,) * 6), ((0, 1),) * 3),
    (("not borne", CORNER, PUSH), UPRIGHT), (("not borne", CORNER, RIM), ACROSS), (("not borne", CORNER, RIM), FAR),
    (("not borne", CORNER, RIM), ()), (("not borne", SIX_LEGS, RIM), UPRIGHT),
    (("not borne", CORNER, RIM), (0, 0, 2, 0, 0, 0)),
    (("alike", APART, PARTED), alikes.factors(APART, LED)), (("alike", APART, LED), ()), (("alike", APART, LED), None),
    (("alike", APART, APART), ((True, 1), ((1, 1),) * 5)),
    (("alike", APART, APART), ((1, 1), ((1, True),) + ((1, 1),) * 4)),
    (("alike", APART, APART), ((1, 1), ((1, 1),) * 4)), (("alike", APART, APART), ((1, 1), [(1, 1)] * 5)),
    (("alike", APART, APART), [(1, 1), ((1, 1),) * 5]), (("alike", APART, APART), ((2, 2), ((1, 1),) * 5)),
    (("alike", APART, APART), ((1, 1), ((-1, 1),) * 5)), (("alike", APART, APART), ((1, 1), ((1, 1),) * 5, ())),
    (("alike", HANGING, SLID), alikes.factors(HANGING, SLID)),
    (("alike", APART[:2], APART[:2]), ((1, 1), ((1, 1),) * 2)),
    (("alike", APART, APART[:4]), ((1, 1), ((1, 1),) * 5)),
    (("alike", (ACROSS,) * 3, (ACROSS,) * 3), ((1, 1), ((1, 1),) * 3)),
    (("alike", CORNER, CORNER), ((1, 1), ((1, 1),) * 3)), (("unlike", APART, LED), (0, 1, 2, 3)),
    (("unlike", APART, LED), (0,) * 5),
    (("unlike", APART, PARTED), (0, 1, 2)), (("unlike", APART, PARTED), (0, 1, 2, 2)),
    (("unlike", APART, PARTED), (-1, 1, 2, 3)),
    (("unlike", APART, PARTED), (0, 1, 2, 5)), (("unlike", APART, PARTED), (1, 2, 3, 4)),
    (("unlike", APART, PARTED), ()),
    (("unlike", APART, PARTED), (False, 1, 2, 3)), (("unlike", APART, PARTED), (0, True, 2, 3)),
    (("unlike", APART, PARTED), [0, 1, 2, 3]),
    (("unlike", HANGING, SLID), (0,) * 5), (("unlike", HANGING, SLID), (1, 0, 0, 0, 0)),
    (("unlike", HANGING, SLID), (0, 1, 2, 3)),
    (("unlike", HANGING, SLID), ()), (("unlike", HANGING, HANGING), alikes.parting_ties(HANGING, SLID)),
    (("unlike", APART, APART[:4]), (0, 1, 2, 3)), (("unlike", CORNER, CORNER), (1, 0, 0)),
    (("unlike", APART, PARTED), (0, 1, 2, HUGE)),
    (("six", FIRST_SIX[0], FIRST_SIX[0]), ()), (("six",) + FIRST_SIX, ACROSS),
    (("six", FIRST_SIX[0][:5], FIRST_SIX[1][:5]), ()),
    (("six", list(FIRST_SIX[0]), FIRST_SIX[1]), ()), (("six", FIRST_SIX), ()), (("on cubic", BODY, ALONG), ()),
    (("on cubic", BODY, ACROSS), (1, 0, 0, 0)), (("on cubic", BODY[:19], ACROSS), ()),
    (("off cubic", BODY, ACROSS), (1, 0, 0, 0)),
    (("off cubic", BODY, ALONG), (1, 5, 0, 0)), (("off cubic", BODY, ALONG), (0, 0, 1, 0)),
    (("off cubic", BODY, ALONG), (2, 0, 2, 0)),
    (("off cubic", BODY, ALONG), ()), (("off cubic", BODY, ALONG), (1, 1, 1, 1)),
    (("star",) + FIRST_SIX + ((1, 0, 0, 0),), ()),
    (("star",) + FIRST_SIX + ((1, 0, -4, 4),), (1, 0, -4, 4)),
    (("star", FIRST_SIX[0], FIRST_SIX[0], (1, 0, -4, 4)), ()),
    (("star",) + FIRST_SIX + ((-1, 0, 4, -4),), ()), (("star",) + FIRST_SIX + ((True, 0, -4, 4),), ()),
    (("star",) + FIRST_SIX, ()),
    (("one of all",) + FIRST_SIX + (ALONG,), ()), (("one of all",) + FIRST_SIX + (0,), ()),
    (("one of all",) + FIRST_SIX + (None,), ()),
    (("one of all", FIRST_SIX[1], FIRST_SIX[1], ACROSS), ()),
    (("one of all",) + FIRST_SIX + ((True, 0, 0, 0, 0, 0),), ()),
    (("one of all",) + FIRST_SIX + (ACROSS,), (11,)), (("gap", ACROSS, HIGH, (2, 2)), ()),
    (("gap", ACROSS, HIGH, (True, 1)), ()),
    (("gap", ACROSS, HIGH, (1, True)), ()), (("gap", ACROSS, HIGH, 1), ()), (("gap", ACROSS, HIGH, (0, 1)), ()),
    (("gap", ACROSS, HIGH, [1, 1]), ()), (("gap", ACROSS, FAR, (0, 1)), ()), (("gap", FAR, FAR, (0, 1)), ()),
    (("gap", ACROSS, HIGH, (-1, -1)), ()),
    (("gap", LEFT, LEFT, (False, 1)), ()), (("gap", ACROSS, HIGH, (1, 1)), (1, 1)), (("rigid", TALL), ()),
    (("rigid", PLAIN[:3]), ()),
    (("rigid", PLAIN), PLAIN), (("rigid", tuple(map(list, PLAIN))), ()), (("rigid", PLAIN[0]), ()), (("rigid",), ()),
]

ODD = [None, True, False, 0, 1, -1, HUGE, "", "1", "meet", b"", [], {}, set(), (), ((),), (0,), (None,), Grumpy(),
       (Grumpy(),),
       nested(14), object(), len, ValueError("1"), (1, 0, 0, 0), ACROSS, [1, 0, 0, 0], range(4), ("meet",), "endless"]
