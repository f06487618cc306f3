"""Points 11 to 14, and the interface of stringrods/rings.py."""

import random
import unittest
from fractions import Fraction
from math import gcd

from checks import FRACTION, NUMBER, POINT, ROD, ErrorChecks
from references import base_in_stairs, distance_square, rank_by_fractions, small_rods
from samples import HUGE, NO_FRACTIONS, NO_WHOLES, crossed_sum, rows_between
from stringrods import rings
from stringrods.errors import Far, InvalidFraction, InvalidNumber, InvalidPoint, InvalidRod, Meeting, NotOnIt
from stringrods.lots import all_meet
from stringrods.rings import (
    cross_at, crossing_three, in_ring, keeps_off, meets_all, near_rod, ring_at, ring_rod,
)
from stringrods.rods import do_meet, is_rod, meeting_point, on_rod
from stringrods.spaces import join
from stringrods.surfaces import surface_at, surface_of

ACROSS, ALONG, UPRIGHT = (1, 0, 0, 0, 0, 0), (0, 1, 0, 0, 0, 0), (0, 0, 1, 0, 0, 0)
HIGH, MAST = (0, 1, 0, -1, 0, 0), (0, 0, 1, 1, -1, 0)
THREE = (ACROSS, HIGH, MAST)
TOWER = ((0, 1, 1, 0, -1, 1), (1, 0, -1, -1, 0, -1), (0, 1, -1, 0, -1, -1))
SHEET = ((1, 0, 0, 0, 0, 0), (1, 0, 1, 1, 0, -1), (1, 0, -1, 1, 0, 1))
WITH_FAR = ((0, 0, 0, 1, 0, 0), (1, 0, 1, 0, -1, 0), (1, 0, 2, 2, 0, -1))
LARGE = (join((1, HUGE, 2, 3), (1, 5, 7, HUGE)), ACROSS, join((2, 1, HUGE, 0), (0, 1, 1, HUGE)))
MIDDLE = (1, 0, 0, 0)
SMALL = small_rods(1)
POINTS = rows_between(-1, 1, 4)
PAIRS = [(0, 1), (1, 0), (1, 1), (1, -1), (-1, 1), (2, 1), (-3, 2), (0, -7), (5, 0), (4, 6), (7, -11), (100, 1),
         (10 ** 30, 10 ** 29), (-(10 ** 12), 3)]


def picked_threes():
    chance = random.Random(11)
    told = [THREE, TOWER, SHEET, WITH_FAR, LARGE]
    while len(told) < 25:
        three = tuple(chance.choice(SMALL) for _ in range(3))
        if all(crossed_sum(a, b) != 0 for a, b in ((three[0], three[1]), (three[0], three[2]), (three[1], three[2]))):
            told.append(three)
    return told


THREES = picked_threes()


def ring_numbers(three, s, t):
    """The row of [12], word by word, not reduced."""
    a, b, c = three
    p, q, r = crossed_sum(b, c), crossed_sum(a, c), crossed_sum(a, b)
    x, y, z = q * s, r * t - p * s, -q * t
    return tuple(y * z * a[at] + x * z * b[at] + x * y * c[at] for at in range(6))


class Example(unittest.TestCase):
    def test_the_ring(self):
        told = [in_ring(*TOWER, (1, 0, 1, -1, 0, 1)), in_ring(*TOWER, (0, 1, -1, 0, 1, 1)),
                meets_all(*TOWER, (0, 1, -1, 0, 1, 1)), ring_rod(*TOWER, 0, 1) == TOWER[0],
                ring_rod(*TOWER, 1, 0) == TOWER[2], ring_rod(*TOWER, 1, -1) == TOWER[1]]
        self.assertEqual(told, [True, False, True, True, True, True])

    def test_rods_at_points(self):
        told = [cross_at(*TOWER, (1, 1, 0, 0)), ring_at(*TOWER, (1, 0, -1, 0)),
                ring_at(*TOWER, (1, 1, 0, 0)) == TOWER[0], crossing_three(*TOWER)[0]]
        self.assertEqual(told, [(0, 1, -1, 0, 1, 1), (1, 0, 1, -1, 0, 1), True, (0, 1, -1, 0, 1, 1)])

    def test_what_keeps_off(self):
        told = [keeps_off(*TOWER, MIDDLE, (1, 1)), keeps_off(*TOWER, MIDDLE, (10, 9)), near_rod(*TOWER, MIDDLE, (1, 1)),
                near_rod(*TOWER, (1, 1, 0, 0), (0, 1)), keeps_off(*TOWER, (1, 1, 0, 0), (1, 9))]
        self.assertEqual(told, [True, False, None, None, False])

    def test_errors(self):
        with self.assertRaises(NotOnIt) as caught:
            cross_at(*TOWER, MIDDLE)
        self.assertEqual(caught.exception.given, MIDDLE)
        with self.assertRaises(Meeting):
            in_ring(TOWER[0], TOWER[0], TOWER[1], TOWER[2])


class RingRod(unittest.TestCase):
    def test_by_the_row(self):
        for three in THREES:
            for s, t in PAIRS:
                rod, row = ring_rod(*three, s, t), ring_numbers(three, s, t)
                self.assertIs(is_rod(rod), True)
                self.assertEqual(rank_by_fractions([rod, row]), 1)
                self.assertIs(in_ring(*three, rod), True)

    def test_each_two_are_apart_or_have_one_pair(self):
        for three in THREES[:8]:
            told = [(s, t, ring_rod(*three, s, t)) for s in range(-3, 4) for t in range(-3, 4) if (s, t) != (0, 0)]
            for s, t, rod in told:
                for other_s, other_t, other in told[::3]:
                    same = s * other_t == t * other_s
                    self.assertEqual(rod == other, same)
                    self.assertIs(do_meet(rod, other), same)

    def test_common_factors(self):
        for three in THREES:
            for s, t in PAIRS:
                for factor in (2, -1, -6, 10 ** 60, HUGE):
                    self.assertEqual(ring_rod(*three, factor * s, factor * t), ring_rod(*three, s, t))

    def test_the_three(self):
        for three in THREES:
            p, r = crossed_sum(three[1], three[2]), crossed_sum(three[0], three[1])
            self.assertEqual(ring_rod(*three, 0, 1), three[0])
            self.assertEqual(ring_rod(*three, r, p), three[1])
            self.assertEqual(ring_rod(*three, 1, 0), three[2])
            self.assertEqual(ring_rod(*three, 0, -HUGE), three[0])
            self.assertEqual(ring_rod(*three, HUGE, 0), three[2])

    def test_each_rod_of_the_ring_has_its_pair(self):
        for three in (THREE, TOWER, SHEET):
            ring = [rod for rod in SMALL if rank_by_fractions(three + (rod,)) == 3]
            self.assertGreater(len(ring), 2)
            for rod in ring:
                pairs = [(s, t) for s in range(-8, 9) for t in range(0, 9) if gcd(s, t) == 1 and (t > 0 or s == 1)]
                self.assertEqual(len([pair for pair in pairs if ring_rod(*three, *pair) == rod]), 1)

    def test_for_0_and_0(self):
        with self.assertRaises(InvalidNumber) as caught:
            ring_rod(*TOWER, 0, 0)
        self.assertEqual(caught.exception.given, 0)
        # Told for turn, and so ahead of what is told last, behind what is told for number.
        with self.assertRaises(InvalidNumber) as caught:
            ring_rod(ACROSS, ACROSS, ALONG, 0, 0)
        self.assertEqual(caught.exception.given, 0)
        for value in NO_WHOLES:
            for call in (lambda: ring_rod(*TOWER, value, 0), lambda: ring_rod(*TOWER, turn=0, number=value)):
                with self.assertRaises(InvalidNumber) as caught:
                    call()
                self.assertIs(caught.exception.given, value)
            for number in (0, 1):
                with self.assertRaises(InvalidNumber) as caught:
                    ring_rod(*TOWER, number, value)
                self.assertIs(caught.exception.given, value)
        with self.assertRaises(InvalidRod):
            ring_rod(ACROSS, HIGH, None, 0, 0)


class InRing(unittest.TestCase):
    def test_by_the_rank_and_the_products(self):
        kinds = set()
        for three in THREES:
            cross = crossing_three(*three)
            tried = SMALL[::11] + [ring_rod(*three, 2, 5)] + [ring_rod(*cross, 3, -4)] + list(three) + list(cross)
            for rod in tried:
                ring, crossing = in_ring(*three, rod), meets_all(*three, rod)
                self.assertIs(ring, rank_by_fractions(three + (rod,)) == 3)
                self.assertIs(crossing, all(crossed_sum(rod, each) == 0 for each in three))
                kinds.add((ring, crossing))
                # [11]: it meets all rods that meet the three.
                self.assertIs(all_meet(three, rod), ring)
        self.assertEqual(kinds, {(True, False), (False, True), (False, False)})

    def test_rings_that_cross(self):
        for three in THREES:
            cross = crossing_three(*three)
            ring = [ring_rod(*three, s, t) for s, t in PAIRS]
            for s, t in PAIRS:
                crossing = ring_rod(*cross, s, t)
                self.assertIs(meets_all(*three, crossing), True)
                self.assertIs(in_ring(*cross, crossing), True)
                self.assertTrue(all(do_meet(crossing, rod) for rod in ring))
            for rod in ring:
                self.assertIs(meets_all(*cross, rod), True)


class AtPoints(unittest.TestCase):
    def check_point(self, three, point):
        rod, crossing = ring_at(*three, point), cross_at(*three, point)
        for each in (rod, crossing):
            self.assertIs(is_rod(each), True)
            self.assertIs(on_rod(point, each), True)
        self.assertIs(in_ring(*three, rod), True)
        self.assertIs(meets_all(*three, crossing), True)
        self.assertEqual(meeting_point(rod, crossing), point)

    def test_all_small_points(self):
        on_them = 0
        for three in THREES:
            surface = surface_of(*three)
            for point in POINTS + [(1, 5, 3, -7), (0, 2, 3, 5)]:
                if surface_at(surface, point) == 0:
                    self.check_point(three, point)
                    on_them += 1
                    continue
                for call in (ring_at, cross_at):
                    with self.assertRaises(NotOnIt) as caught:
                        call(*three, point)
                    self.assertIs(caught.exception.given, point)
        self.assertGreater(on_them, 50)

    def test_points_of_no_rod_told_beforehand(self):
        for three in THREES:
            cross = crossing_three(*three)
            for s, t in PAIRS:
                for u, v in PAIRS[::3]:
                    rod, crossing = ring_rod(*three, s, t), ring_rod(*cross, u, v)
                    point = meeting_point(rod, crossing)
                    self.assertEqual(ring_at(*three, point), rod)
                    self.assertEqual(cross_at(*three, point), crossing)

    def test_by_hand(self):
        # Points of x x + y y - z z = w w that lie on none of the three rods.
        for point in [(1, 2, 2, -7), (3, 2, 6, 5), (5, 3, 4, 0), (5, -4, 3, 0)]:
            w, x, y, z = point
            if x * x + y * y - z * z == w * w:
                self.check_point(TOWER, point)
            else:
                with self.assertRaises(NotOnIt):
                    ring_at(*TOWER, point)
        # Through (3/5, 4/5, 0) along (-4, 3, 5), or (-4, 3, -5).
        self.assertEqual(ring_at(*TOWER, (5, 3, 4, 0)), join((5, 3, 4, 0), (0, 4, -3, -5)))
        self.assertEqual(cross_at(*TOWER, (5, 3, 4, 0)), join((5, 3, 4, 0), (0, 4, -3, 5)))

    def test_far_points(self):
        # Far points of the tower: x x + y y = z z.
        for point in [(0, 0, 1, 1), (0, 3, 4, 5), (0, 1, 0, -1)]:
            self.check_point(TOWER, point)
        for point in [(0, 1, 0, 0), (0, 0, 1, 0)]:
            # Far points of the sheet, x y = w z, and the far rods through them.
            self.check_point(SHEET, point)
            far = [call(*SHEET, point)[:3] == (0, 0, 0) for call in (ring_at, cross_at)]
            self.assertEqual(sorted(far), [False, True])
        self.assertEqual(sorted([ring_at(*SHEET, (0, 0, 0, 1)), cross_at(*SHEET, (0, 0, 0, 1))]),
                         [(0, 0, 0, 0, 1, 0), (0, 0, 0, 1, 0, 0)])


class CrossingThree(unittest.TestCase):
    def test_through_the_points_in_stairs(self):
        for three in THREES:
            d, m = three[0][:3], three[0][3:]
            stairs = points_in_stairs(d, m)
            total = tuple(a + b for a, b in zip(*stairs))
            told = crossing_three(*three)
            self.assertIs(told.__class__, tuple)
            self.assertEqual(len(told), 3)
            for rod, point in zip(told, [*stairs, total]):
                divisor = gcd(*point)
                self.assertIs(on_rod(tuple(number // divisor for number in point), rod), True)
                self.assertIs(meets_all(*three, rod), True)

    def test_by_hand(self):
        # The points of the tower's first rod in stairs: (1, 1, 0, 0) and (0, 0, 1, 1).
        self.assertEqual(crossing_three(*TOWER)[0], cross_at(*TOWER, (1, 1, 0, 0)))
        self.assertEqual(crossing_three(*TOWER)[1], cross_at(*TOWER, (0, 0, 1, 1)))
        self.assertEqual(crossing_three(*TOWER)[2], cross_at(*TOWER, (1, 1, 1, 1)))

    def test_for_a_far_first_rod(self):
        far = (0, 0, 0, 2, 3, 5)
        # Its points are those with w = 0 and 2 x + 3 y + 5 z = 0; in stairs (0, 5, 0, -2), (0, 0, 5, -3).
        three = (far, ACROSS, HIGH)
        told = crossing_three(*three)
        self.assertEqual(list(told), [cross_at(*three, point) for point in
                                      [(0, 5, 0, -2), (0, 0, 5, -3), (0, 1, 1, -1)]])
        for place in range(3):
            for three in THREES[:6]:
                shifted = three[place:] + three[:place]
                self.assertEqual(len(set(crossing_three(*shifted))), 3)


def points_in_stairs(d, m):
    """By hand: the two points in stairs of a rod."""
    cross = (d[1] * m[2] - d[2] * m[1], d[2] * m[0] - d[0] * m[2], d[0] * m[1] - d[1] * m[0])
    long = sum(number * number for number in d)
    if long:
        return base_in_stairs([(long, *cross), (0, *d)])
    return base_in_stairs([(0, -m[1], m[0], 0), (0, -m[2], 0, m[0]), (0, 0, -m[2], m[1])])


class KeepsOff(unittest.TestCase):
    def check_near(self, three, point, fraction):
        rod = near_rod(*three, point, fraction)
        self.assertIs(keeps_off(*three, point, fraction), rod is None)
        if rod is not None:
            self.assertIs(in_ring(*three, rod), True)
            self.assertNotEqual(rod[:3], (0, 0, 0))
            self.assertLess(distance_square(rod, point), Fraction(*fraction))
        return rod

    def test_exactly_the_nearest_square_and_just_above(self):
        # The tower: from the middle all rods have the distance 1. From (0, 0, 5) the square is 27 / 2
        # for all of them. From (3, 0, 0) it is (11 - 12 c + 9 c c) / 2, c being a cosine: 7 / 2
        # for c = 2 / 3, where no rod is told. From (1, 1, 0): 0 for c = 1.
        by_hand = [(MIDDLE, (1, 1)), ((1, 0, 0, 5), (27, 2)), ((1, 3, 0, 0), (7, 2)), ((1, 1, 0, 0), (0, 1))]
        for point, nearest in by_hand:
            self.assertIsNone(self.check_near(TOWER, point, nearest))
            below = Fraction(*nearest) - Fraction(1, 10 ** 30)
            if below > 0:
                self.assertIsNone(self.check_near(TOWER, point, (below.numerator, below.denominator)))
            for more in (Fraction(1, 10), Fraction(1, 10 ** 9), Fraction(1, 10 ** 60)):
                above = Fraction(*nearest) + more
                rod = self.check_near(TOWER, point, (above.numerator, above.denominator))
                self.assertIsNotNone(rod)

    def test_only_rods_with_great_numbers_are_nearer(self):
        above = Fraction(7, 2) + Fraction(1, 10 ** 60)
        rod = self.check_near(TOWER, (1, 3, 0, 0), (above.numerator, above.denominator))
        self.assertGreater(max(abs(number) for number in rod), 10 ** 14)
        self.assertGreater(distance_square(rod, (1, 3, 0, 0)), Fraction(7, 2))

    def test_the_greatest_numbers(self):
        small = Fraction(7, 2) + Fraction(1, 10 ** 398)
        self.assertIsNotNone(self.check_near(TOWER, (1, 3, 0, 0), (small.numerator, small.denominator)))
        self.assertIsNotNone(self.check_near(TOWER, (1, HUGE, 0, 0), (HUGE * HUGE, 1)))
        self.assertIsNone(self.check_near(TOWER, (1, 0, 0, HUGE), (HUGE, 1)))
        self.assertIsNone(self.check_near(TOWER, (HUGE, 0, 0, 1), (1, 2)))
        self.check_near(LARGE, (1, 2, 3, 4), (1, 1))

    def test_far_fractions(self):
        for three in THREES:
            for point in [MIDDLE, (1, 2, 3, 5), (7, 3, 0, -2)]:
                self.assertIsNone(self.check_near(three, point, (0, 1)))
        for three in THREES[:4] + THREES[5:]:
            self.assertIsNotNone(self.check_near(three, MIDDLE, (10 ** 50, 1)))

    def test_no_rod_of_many_is_nearer(self):
        chance = random.Random(14)
        pairs = [(s, t) for s in range(-12, 13) for t in range(0, 13) if gcd(s, t) == 1 and (t > 0 or s == 1)]
        kept = 0
        for three in THREES[:4] + THREES[5:]:
            rods = [ring_rod(*three, s, t) for s, t in pairs]
            rods = [rod for rod in rods if rod[:3] != (0, 0, 0)]
            for _ in range(6):
                point = (chance.randint(1, 3), chance.randint(-4, 4), chance.randint(-4, 4), 1)
                squares = [distance_square(rod, point) for rod in rods]
                for part in (1, Fraction(1, 2), Fraction(99, 100), Fraction(101, 100)):
                    fraction = min(squares) * part
                    rod = self.check_near(three, point, (fraction.numerator, fraction.denominator))
                    if part > 1 and fraction > 0:
                        self.assertIsNotNone(rod)
                    if rod is None:
                        kept += 1
        self.assertGreater(kept, 100)

    def test_far_rods_are_left_out(self):
        for three in (SHEET, WITH_FAR):
            for fraction in [(1, 100), (1, 1), (10 ** 20, 1)]:
                self.check_near(three, (1, 5, 7, 0), fraction)
                self.check_near(three, (1, 2, 2, 5), fraction)
        # The sheet's rods are y = c, z = c x; from (0, 0, 7) their squares are (49 + c c + c c c c) / (1 + c c).
        self.assertIsNone(near_rod(*SHEET, (1, 0, 0, 7), (13, 1)))
        # With u = 1 + c c it is u + 49 / u - 1, least for u = 7, with 13: c is no fraction.
        self.assertIsNotNone(self.check_near(SHEET, (1, 0, 0, 7), (13 * 10 ** 20 + 1, 10 ** 20)))

    def test_far_points(self):
        for call in (keeps_off, near_rod):
            for point in [(0, 1, 0, 0), (0, 0, 1, 1)]:
                with self.assertRaises(Far):
                    call(*TOWER, point, (1, 1))
                with self.assertRaises(Far):
                    call(*TOWER, fraction=(0, 1), point=point)
                # Behind Meeting(), and behind what is told for the fraction.
                with self.assertRaises(Meeting):
                    call(ACROSS, ALONG, MAST, point, (1, 1))
                with self.assertRaises(InvalidFraction):
                    call(*TOWER, point, (2, 2))


THREE_RODS = [("rod", ROD, TOWER[0]), ("other", ROD, TOWER[1]), ("third", ROD, TOWER[2])]
NEAR = [("point", POINT, (1, 1, 0, 0)), ("fraction", FRACTION, (1, 9))]
TAILS = [
    (in_ring, [("fourth", ROD, (1, 0, 1, -1, 0, 1))]),
    (meets_all, [("fourth", ROD, (1, 0, 1, -1, 0, 1))]),
    (ring_at, [("point", POINT, (1, 1, 0, 0))]),
    (cross_at, [("point", POINT, (1, 1, 0, 0))]),
    (ring_rod, [("number", NUMBER, 2), ("turn", NUMBER, -3)]),
    (crossing_three, []),
    (keeps_off, NEAR),
    (near_rod, NEAR),
]
CALLS = [(call, THREE_RODS + tail) for call, tail in TAILS]


class Errors(ErrorChecks, unittest.TestCase):
    def test_by_name(self):
        self.check_by_name(CALLS)

    def test_each_parameter(self):
        self.check_each_parameter(CALLS)

    def test_the_first_of_two_wrong_ones(self):
        self.check_first_of_two(CALLS)

    def test_meeting_is_last(self):
        threes = [(ACROSS, ACROSS, HIGH), (ACROSS, HIGH, ACROSS), (HIGH, ACROSS, ACROSS), (ACROSS, ALONG, MAST),
                  (ACROSS, MAST, ALONG), (MAST, ACROSS, ALONG), (ACROSS, ALONG, UPRIGHT)]
        for three in threes:
            for call, tail in TAILS:
                for point in (tail, [(name, sort, MIDDLE if name == "point" else value) for name, sort, value in tail]):
                    front = [(name, sort, rod) for (name, sort, _), rod in zip(THREE_RODS, three)]
                    arguments = {name: value for name, _, value in front + point}
                    self.check_raised(call, arguments, Meeting)
        bad = [(name, sort, rod) for (name, sort, _), rod in zip(THREE_RODS, (ACROSS, ALONG, ACROSS))]
        self.check_ahead_of_last([(call, bad + tail, Meeting) for call, tail in TAILS])

    def test_not_on_it(self):
        for call in (ring_at, cross_at):
            for point in [MIDDLE, (0, 1, 0, 0), (1, HUGE, 0, 0)]:
                arguments = dict(zip(("rod", "other", "third", "point"), (*TOWER, point)))
                self.check_raised(call, arguments, NotOnIt, "given", point)
            with self.assertRaises(InvalidPoint):
                call(*TOWER, (2, 2, 0, 0))

    def test_all_wrong_fractions(self):
        for value in NO_FRACTIONS:
            for call in (keeps_off, near_rod):
                with self.assertRaises(InvalidFraction) as caught:
                    call(*TOWER, MIDDLE, value)
                self.assertIs(caught.exception.given, value)

    def test_defined_in_their_file(self):
        self.check_defined(rings, [call.__name__ for call, _ in CALLS])


if __name__ == "__main__":
    unittest.main()
