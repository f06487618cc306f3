"""Lots, double sixes and maps of space that several tests share, made in other ways than the package does."""

import random
from fractions import Fraction
from itertools import combinations
from math import isqrt

from references import noughts, rank_by_fractions, scaled, small_rods
from samples import HUGE, PLAIN, Grumpy, NO_RODS, SOME_RODS, crossed_sum, determinant, nested

ACROSS, ALONG, UPRIGHT = (1, 0, 0, 0, 0, 0), (0, 1, 0, 0, 0, 0), (0, 0, 1, 0, 0, 0)
AUGER = (0, 0, 1, 0, 0, 1)
TOWER = ((0, 1, 1, 0, -1, 1), (1, 0, -1, -1, 0, -1), (0, 1, -1, 0, -1, -1))
SMALL = small_rods(1)


def whole(row):
    """The row, not all 0, reduced."""
    return scaled([Fraction(number) for number in row])


def crossed(u, v):
    return [u[1] * v[2] - u[2] * v[1], u[2] * v[0] - u[0] * v[2], u[0] * v[1] - u[1] * v[0]]


def joined(point, other):
    """[7]: the rod through two unlike points."""
    d = [point[0] * b - other[0] * a for a, b in zip(point[1:], other[1:])]
    return whole(d + crossed(point[1:], other[1:]))


def cut_of(plane, other):
    """[7]: the rod of two unlike planes."""
    m = [plane[0] * b - other[0] * a for a, b in zip(plane[1:], other[1:])]
    return whole(crossed(plane[1:], other[1:]) + m)


def ends_of(rod):
    """Two unlike points of a rod, where it cuts two of the corners' planes."""
    d, m = list(rod[:3]), list(rod[3:])
    found = []
    for a, *n in PLAIN:
        x = crossed(n, m)
        point = [sum(u * v for u, v in zip(n, d))] + [x[at] - a * d[at] for at in range(3)]
        if any(point) and whole(point) not in found:
            found.append(whole(point))
    return found[:2]


def times_row(table, row):
    return whole([sum(a * b for a, b in zip(line, row)) for line in table])


def led_rod(table, rod):
    """The rod to which a table that leads points to points leads a rod."""
    return joined(*[times_row(table, end) for end in ends_of(rod)])


def turned_rod(table, rod):
    """The rod to which a table that leads points to planes leads a rod."""
    return cut_of(*[times_row(table, end) for end in ends_of(rod)])


def table_of_rows(rows):
    numbers = whole([number for row in rows for number in row])
    return tuple(numbers[at:at + 4] for at in (0, 4, 8, 12))


SHIFT, MIRROR = ((1, 0, 0, 0), (1, 1, 0, 0)) + PLAIN[2:], PLAIN[:3] + ((0, 0, 0, -1),)
TALL = PLAIN[:3] + ((0, 0, 0, 2),)
GREAT = ((1, HUGE, 0, 0), (0, 1, 0, 0), (0, 0, HUGE, 1), (0, 2, 1, 0))


def picked_tables(many, seed):
    chance = random.Random(seed)
    told = []
    while len(told) < many:
        rows = [[chance.randint(-3, 3) for _ in range(4)] for _ in range(4)]
        if determinant(rows) != 0:
            told.append(table_of_rows(rows))
    return told


MAPS = [PLAIN, SHIFT, MIRROR, TALL] + picked_tables(4, 41)


def all_apart(rods):
    return all(crossed_sum(one, two) != 0 for one, two in combinations(rods, 2))


def apart_lot(chance, pool, many):
    """So many rods of the pool, each two apart from one another."""
    while True:
        found = []
        for rod in chance.sample(pool, min(len(pool), 200)):
            if all(crossed_sum(rod, each) != 0 for each in found):
                found.append(rod)
            if len(found) == many:
                return tuple(found)


def pool_by(chance, meets, many):
    """Rods of greater numbers that have the product 0 with a rod or screw, or with none for None."""
    found = []
    while len(found) < many:
        start = (1, chance.randint(-4, 4), chance.randint(-4, 4), chance.randint(-4, 4))
        if meets is None:
            end = (chance.randint(0, 2), chance.randint(-4, 4), chance.randint(-4, 4), chance.randint(-4, 4))
        else:
            # Two points and the plane in which all rods of the net through the first one lie.
            d, m = meets[:3], meets[3:]
            plane = [-sum(a * b for a, b in zip(m, start[1:]))]
            plane += [b + c for b, c in zip(m, crossed(d, start[1:]))]
            base = noughts([plane], 4) if any(plane) else list(PLAIN)
            factors = [chance.randint(-3, 3) for _ in base]
            end = [sum(f * row[at] for f, row in zip(factors, base)) for at in range(4)]
        if any(end) and whole(end) != whole(start):
            found.append(joined(whole(start), whole(end)))
    return found


def pool_across(chance, rod, other, many):
    """Rods through a point of the one and a point of the other of two rods apart from one another."""
    told = []
    while len(told) < many:
        ends = []
        for each in (rod, other):
            factors = (chance.randint(-4, 4), chance.randint(1, 4))
            ends.append(whole([factors[0] * a + factors[1] * b for a, b in zip(*ends_of(each))]))
        told.append(joined(*ends))
    return told


def picked_lots(meets, rank, length, many, seed):
    """Lots of this length and rank, all apart, all with the product 0 with what is told."""
    chance = random.Random(seed)
    told = []
    while len(told) < many:
        if rank == 4 and meets is not None:
            # Four such rods are not likely to hang together by chance.
            pool = pool_across(chance, meets, chance.choice([(0, 1, 0, -1, 0, 0), (0, 1, 2, 3, 2, -1)]), 60)
        else:
            pool = pool_by(chance, meets, 60)
        lot = apart_lot(chance, pool, length) if len(set(pool)) > length + 8 else None
        if lot is not None and rank_by_fractions(lot) == rank:
            told.append(lot)
    return told


# A double six of small numbers, and five rods that make it with the first one.
PROPS = (UPRIGHT, (0, 1, 0, 0, 0, 1), (0, 1, 1, 0, -2, 2), (0, 1, 2, 0, -6, 3), (1, 1, -1, 0, 4, 4))


def meeters_by_roots(four):
    """The meeters of four rods that are told by fractions, where they are not endless: None otherwise."""
    base = noughts([rod[3:] + rod[:3] for rod in four], 6)
    if len(base) != 2:
        return None
    a, b, c = crossed_sum(base[0], base[0]), crossed_sum(base[0], base[1]), crossed_sum(base[1], base[1])
    if a == b == c == 0:
        return None
    part = b * b - a * c
    if part < 0 or isqrt(part) ** 2 != part:
        return []
    root = isqrt(part)
    if a == 0:
        pairs = {(1, 0), (-c, 2 * b) if b else (1, 0)}
    else:
        pairs = {(root - b, a), (-root - b, a)}
    return sorted(whole([s * u + t * v for u, v in zip(*base)]) for s, t in pairs)


def six_by_roots(rod, five):
    """[34], word by word, by other ways: the double six of five rods, None if they make none."""
    if any(crossed_sum(rod, each) for each in five) or not all_apart(five) or rank_by_fractions(five) < 5:
        return None
    others = []
    for at in range(5):
        told = meeters_by_roots(five[:at] + five[at + 1:])
        if told is None or len(told) != 2:
            return None
        others.append([each for each in told if each != rod][0])
    net = noughts([each[3:] + each[:3] for each in others], 6)
    return (tuple(five) + (net[0],), tuple(others) + (rod,))


def picked_sixes(many, seed):
    """Double sixes, by chance but always the same ones."""
    chance = random.Random(seed)
    told = []
    while len(told) < many:
        five = []
        while len(five) < 5:
            start = (1, chance.randint(-4, 4), 0, 0)
            end = (chance.randint(0, 1),) + tuple(chance.randint(-3, 3) for _ in range(3))
            if any(end[2:]):
                five.append(joined(whole(start), whole(end)))
        six = six_by_roots(ACROSS, tuple(five))
        if six is not None:
            told.append(six)
    return told


def led_six(table, six):
    return tuple(tuple(led_rod(table, rod) for rod in half) for half in six)


FIRST_SIX = six_by_roots(ACROSS, PROPS)
SIXES = [FIRST_SIX] + picked_sixes(3, 34)
LED_SIXES = [led_six(MAPS[4], FIRST_SIX), led_six(MAPS[5], SIXES[1])]
GREAT_SIX = led_six(GREAT, SIXES[2])

# None of these is a cubic.
NO_CUBICS = NO_RODS + [
    [1] + [0] * 19, (0,) * 20, (1,) * 19, (1,) * 21, (1,) + (0,) * 18, (1,) + (0,) * 20, (2,) + (0,) * 19,
    (0,) * 19 + (2,), (-1,) + (0,) * 19, (0,) * 19 + (-1,), (-1,) + (1,) * 19, (0, -2, 3) + (0,) * 17,
    (2, 4, 6, 8) * 5, (True,) + (0,) * 19, (1,) + (False,) * 19, (True,) * 20, (0,) * 19 + (True,), (1,) + (None,) * 19,
    ("1",) + (0,) * 19, "1" + "0" * 19, (1,) + ("",) * 19, (1,) + ((),) * 19, (0,) * 19 + (Grumpy(),),
    (Grumpy(),) + (0,) * 19, (1,) + (0,) * 18 + (nested(13),), {at: 1 for at in range(20)}, (HUGE,) * 20,
    ((1, 0, 0, 0, 0), (0,) * 5, (0,) * 5, (0,) * 5), ((1,) + (0,) * 19,),
]


def wrong_tuples(good):
    """Pairs of what is no tuple of as many rods as the good one has, and the index that is told."""
    many = len(good)
    told = [(value, None) for value in NO_RODS if not isinstance(value, tuple)] + [(list(good), None)]
    told += [(good[:at], at) for at in range(many)]
    told += [(good + (value,), many) for value in (good[0], ACROSS, None, Grumpy(), (2, 0, 0, 0, 0, 0))]
    told += [(good + (None, None), many), (good + good, many), (good * 10, many)]
    for at in range(many):
        told += [(good[:at] + (value,) + good[at + 1:], at) for value in NO_RODS[at::many]]
        others = (None, list(good[at]), [good[at]], (good[at],))
        told += [(good[:at] + (value,) + good[at + 1:], at) for value in others]
        told.append((good[:at] + ((2, 0, 0, 0, 0, 0), None) + good, at))
        told.append((good[:at] + (None,), at))
    return told


WRONG_FIVES, WRONG_SIXES = wrong_tuples(PROPS), wrong_tuples(FIRST_SIX[0])


def wrong_apart(good):
    """Pairs of what is no lot of three to eight rods apart from one another, and the index that is told."""
    told = [(value, None) for value in NO_RODS if not isinstance(value, tuple)] + [(list(good), None)]
    told += [(good[:at], None) for at in range(3)] + [(SOME_RODS[:9], None), (good * 10, None), ((None,) * 9, None)]
    told += [((None, None), None), ((good[0],) * 2, None), (good[0] + good[0], None), ((None,) * 60, None)]
    for at in range(len(good)):
        told += [(good[:at] + (value,) + good[at + 1:], at) for value in NO_RODS[at::4]]
        others = (None, list(good[at]), [good[at]], (good[at],))
        told += [(good[:at] + (value,) + good[at + 1:], at) for value in others]
        # One of those ahead once more, or a rod that meets one of them, and then what is no rod.
        told += [(good[:at] + (good[ahead],) + (None,) * (len(good) - at - 1), at) for ahead in range(at)]
        for ahead in range(at):
            meets = joined(ends_of(good[ahead])[0], (1, 5, 7, 11))
            told.append((good[:at] + (meets,) + good[at + 1:], at))
    return told
