"""Points 22 to 24, and the interface of stringrods/gaps.py."""

import random
import unittest
from fractions import Fraction

from checks import PLANE, POINT, ROD, ErrorChecks
from references import distance_square, rank_by_fractions, small_rods
from samples import HUGE, crossed_sum, is_reduced
from stringrods import gaps
from stringrods.errors import Far, InvalidPlane, InvalidPoint, InvalidRod, Parallel
from stringrods.gaps import (
    foot, gap, is_parallel, nearest, plane_gap, point_gap, rod_gap, slant, square_rod,
)
from stringrods.rods import do_meet, is_rod, meeting_point, on_rod
from stringrods.spaces import is_point, join, lies_in

FLOOR, BEAM, RAIL = (1, 0, 0, 0, 0, 0), (0, 1, 0, -1, 0, 0), (1, 0, 0, 0, 0, -2)
ALONG, UPRIGHT = (0, 1, 0, 0, 0, 0), (0, 0, 1, 0, 0, 0)
FAR_X, FAR_Z = (0, 0, 0, 1, 0, 0), (0, 0, 0, 0, 0, 1)
TOWER = ((0, 1, 1, 0, -1, 1), (1, 0, -1, -1, 0, -1), (0, 1, -1, 0, -1, -1))
LARGE = join((1, HUGE, 2, 3), (1, 5, 7, HUGE))
RODS = [rod for rod in small_rods(1)[::5] if any(rod[:3])] + [FLOOR, BEAM, RAIL, (3, 4, 0, 0, 0, 5), *TOWER]
POINTS = [(1, 0, 0, 0), (1, 2, -3, 5), (2, 3, 4, 0), (3, 1, 1, 1), (5, -7, 0, 2), (7, 0, 0, 1)]


def vector(point):
    return [Fraction(number, point[0]) for number in point[1:]]


def square(row):
    return sum(number * number for number in row)


def dot(left, right):
    return sum(a * b for a, b in zip(left, right))


def apart(left, right):
    return [a - b for a, b in zip(left, right)]


def start_of(rod):
    """A point of the rod: d x m / d . d."""
    d, m = rod[:3], rod[3:]
    long = square(d)
    return [Fraction(d[1] * m[2] - d[2] * m[1], long), Fraction(d[2] * m[0] - d[0] * m[2], long),
            Fraction(d[0] * m[1] - d[1] * m[0], long)]


def two_nearest(rod, other):
    """The nearest points of two rods that are not parallel, by the two conditions of the right angle."""
    p, q, d, e = start_of(rod), start_of(other), rod[:3], other[:3]
    way = apart(q, p)
    # (q + t e - p - s d) . d = 0 and . e = 0
    a, b, c = dot(d, d), dot(d, e), dot(e, e)
    part = a * c - b * b
    s = (c * dot(way, d) - b * dot(way, e)) / Fraction(part)
    t = (b * dot(way, d) - a * dot(way, e)) / Fraction(part)
    return [x + s * k for x, k in zip(p, d)], [x + t * k for x, k in zip(q, e)]


def as_fraction(pair):
    return Fraction(*pair)


def pair_of(fraction):
    return (fraction.numerator, fraction.denominator)


class Example(unittest.TestCase):
    def test_rods(self):
        told = [gap(FLOOR, BEAM), gap(FLOOR, RAIL), is_parallel(FLOOR, RAIL), slant(FLOOR, BEAM),
                slant(FLOOR, (1, 1, 0, 0, 0, 0)), square_rod(FLOOR, BEAM), nearest(FLOOR, BEAM)]
        self.assertEqual(told, [(1, 1), (4, 1), True, (0, 1), (1, 2), UPRIGHT, ((1, 0, 0, 0), (1, 0, 0, 1))])

    def test_points_and_planes(self):
        told = [foot(FLOOR, (1, 3, 4, 0)), rod_gap(FLOOR, (2, 3, 4, 0)), point_gap((1, 0, 0, 0), (1, 1, 2, 0)),
                plane_gap((1, 2, 2, 1), (1, 0, 0, 0)), gap(TOWER[0], TOWER[2])]
        self.assertEqual(told, [(1, 3, 0, 0), (4, 1), (5, 1), (1, 9), (4, 1)])

    def test_errors(self):
        with self.assertRaises(Parallel):
            square_rod(FLOOR, RAIL)
        with self.assertRaises(Far):
            gap(FLOOR, FAR_X)


class Gap(unittest.TestCase):
    def test_each_two(self):
        kinds = set()
        for rod in RODS:
            for other in RODS:
                parallel = rank_by_fractions([rod[:3], other[:3]]) == 1
                self.assertIs(is_parallel(rod, other), parallel)
                if parallel:
                    start = start_of(other)
                    bottom = 1
                    for number in start:
                        bottom *= number.denominator
                    point = (bottom, *(int(number * bottom) for number in start))
                    expected = distance_square(rod, point)
                else:
                    expected = square(apart(*two_nearest(rod, other)))
                self.assertEqual(gap(rod, other), pair_of(expected))
                self.assertEqual(gap(other, rod), gap(rod, other))
                near = crossed_sum(rod, other) == 0 and not parallel or rod == other
                self.assertIs(gap(rod, other) == (0, 1), near)
                kinds.add((parallel, near, rod == other))
        self.assertEqual(kinds, {(False, False, False), (False, True, False), (True, False, False), (True, True, True)})

    def test_reduced_with_a_number_above_0_below(self):
        for rod in RODS[::3]:
            for other in RODS:
                for told in (gap(rod, other), slant(rod, other)):
                    self.assertIs(told.__class__, tuple)
                    self.assertGreater(told[1], 0)
                    self.assertIs(is_reduced(told) if told[0] else told == (0, 1), True)

    def test_by_hand(self):
        self.assertEqual(gap(FLOOR, ALONG), (0, 1))
        self.assertEqual(gap(FLOOR, FLOOR), (0, 1))
        # (1, 1, 0) through (0, 0, 2), and (1, -1, 0) through (0, 0, -1).
        self.assertEqual(gap(join((1, 0, 0, 2), (0, 1, 1, 0)), join((1, 0, 0, -1), (0, 1, -1, 0))), (9, 1))
        # x + y = 1 and x + y = 0 in a plane: 1 / 2; (3, 4) with the moments 0 and 1: 1 / 25.
        self.assertEqual(gap((1, -1, 0, 0, 0, -1), (1, -1, 0, 0, 0, 0)), (1, 2))
        self.assertEqual(gap((3, 4, 0, 0, 0, 0), (3, 4, 0, 0, 0, 1)), (1, 25))
        # Two directions of one rod that are reduced alike: 2 / 3.
        self.assertEqual(gap((1, 1, 1, 0, 0, 0), (1, 1, 1, 1, -1, 0)), (2, 3))

    def test_points_are_never_nearer(self):
        chance = random.Random(23)
        for rod in RODS[::4]:
            for other in RODS[::3]:
                for _ in range(4):
                    s, t = (Fraction(chance.randint(-9, 9), chance.randint(1, 5)) for _ in range(2))
                    one = [x + s * k for x, k in zip(start_of(rod), rod)]
                    two = [x + t * k for x, k in zip(start_of(other), other)]
                    self.assertGreaterEqual(square(apart(one, two)), as_fraction(gap(rod, other)))

    def test_numbers_of_400_figures(self):
        self.assertEqual(gap(FLOOR, (1, 0, 0, 0, 0, -HUGE)), (HUGE * HUGE, 1))
        self.assertEqual(gap(LARGE, FLOOR), pair_of(square(apart(*two_nearest(LARGE, FLOOR)))))


class Slant(unittest.TestCase):
    def test_by_hand(self):
        self.assertEqual(slant(FLOOR, BEAM), (0, 1))
        self.assertEqual(slant(FLOOR, RAIL), (1, 1))
        self.assertEqual(slant(FLOOR, FLOOR), (1, 1))
        self.assertEqual(slant((1, 1, 0, 0, 0, 0), (1, 1, 1, 0, 0, 0)), (2, 3))
        self.assertEqual(slant((3, 4, 0, 0, 0, 5), (4, -3, 0, 0, 0, 1)), (0, 1))
        self.assertEqual(slant((1, 2, 2, 0, 0, 0), (2, -1, 2, 0, 0, 0)), (16, 81))

    def test_from_0_to_1(self):
        for rod in RODS:
            for other in RODS:
                cosine = Fraction(dot(rod[:3], other[:3]) ** 2, square(rod[:3]) * square(other[:3]))
                self.assertEqual(slant(rod, other), pair_of(cosine))
                self.assertIs(slant(rod, other) == (1, 1), is_parallel(rod, other))


class SquareRod(unittest.TestCase):
    def test_the_rod_and_the_pair(self):
        for rod in RODS:
            for other in RODS[::2]:
                if is_parallel(rod, other):
                    for call in (square_rod, nearest):
                        for pair in ((rod, other), (other, rod)):
                            with self.assertRaises(Parallel):
                                call(*pair)
                    continue
                third, pair = square_rod(rod, other), nearest(rod, other)
                self.assertIs(is_rod(third), True)
                for each in (rod, other):
                    self.assertEqual(dot(third[:3], each[:3]), 0)
                    self.assertIs(do_meet(third, each), True)
                self.assertEqual([vector(point) for point in pair], list(two_nearest(rod, other)))
                for point, each in zip(pair, (rod, other)):
                    self.assertIs(is_point(point), True)
                    self.assertIs(on_rod(point, each), True)
                    self.assertIs(on_rod(point, third), True)
                self.assertEqual(point_gap(*pair), gap(rod, other))
                self.assertEqual(square_rod(other, rod), third)
                self.assertEqual(nearest(other, rod), pair[::-1])

    def test_rods_that_meet(self):
        self.assertEqual(square_rod(FLOOR, ALONG), UPRIGHT)
        self.assertEqual(nearest(FLOOR, ALONG), ((1, 0, 0, 0), (1, 0, 0, 0)))
        rod, other = join((2, 1, 3, 5), (1, 4, 4, 4)), join((2, 1, 3, 5), (0, 1, 2, 3))
        self.assertEqual(nearest(rod, other), (meeting_point(rod, other),) * 2)

    def test_by_hand(self):
        # x = 0, z = 0 and x = 2, y + z = 3: the square rod goes along (1, 0, 0) through y = 3.
        other = join((1, 2, 3, 0), (1, 2, 0, 3))
        self.assertEqual(nearest(ALONG, other), ((1, 0, 3, 0), (1, 2, 3, 0)))
        self.assertEqual(square_rod(ALONG, other), join((1, 0, 3, 0), (1, 2, 3, 0)))


class Foot(unittest.TestCase):
    def test_at_right_angles(self):
        on_it = 0
        for rod in RODS:
            for point in POINTS + [nearest(rod, other)[0] for other in RODS[::9] if not is_parallel(rod, other)]:
                told = foot(rod, point)
                self.assertIs(is_point(told), True)
                self.assertIs(on_rod(told, rod), True)
                way = apart(vector(point), vector(told))
                self.assertEqual(dot(way, rod[:3]), 0)
                self.assertEqual(rod_gap(rod, point), pair_of(square(way)))
                self.assertEqual(rod_gap(rod, point), point_gap(told, point))
                self.assertEqual(rod_gap(rod, point), pair_of(distance_square(rod, point)))
                self.assertIs(told == point, on_rod(point, rod))
                self.assertIs(rod_gap(rod, point) == (0, 1), on_rod(point, rod))
                on_it += told == point
        self.assertGreater(on_it, 100)

    def test_by_hand(self):
        self.assertEqual(foot((1, 1, 0, 0, 0, 0), (1, 1, 0, 0)), (2, 1, 1, 0))
        self.assertEqual(foot((1, 1, 0, 0, 0, 0), (3, 1, 0, 5)), (6, 1, 1, 0))
        self.assertEqual(rod_gap((1, 1, 0, 0, 0, 0), (1, 1, 0, 0)), (1, 2))
        self.assertEqual(foot(RAIL, (1, 5, 2, 0)), (1, 5, 2, 0))
        self.assertEqual(rod_gap(UPRIGHT, (HUGE, 1, 0, 0)), (1, HUGE * HUGE))


class PointsAndPlanes(unittest.TestCase):
    def test_points(self):
        for point in POINTS:
            for other in POINTS:
                expected = square(apart(vector(point), vector(other)))
                self.assertEqual(point_gap(point, other), pair_of(expected))
        self.assertEqual(point_gap((2, 1, 0, 0), (3, 1, 0, 0)), (1, 36))
        self.assertEqual(point_gap((1, HUGE, 0, 0), (1, 0, HUGE, 0)), (2 * HUGE * HUGE, 1))

    def test_planes(self):
        planes = [(0, 0, 0, 1), (1, 2, 2, 1), (5, 3, 4, 0), (1, -1, 1, 0), (0, 1, 1, 1), (2, 0, 0, 3), (3, 0, -2, 0),
                  (3, 2, 0, 0), (0, 1, 0, 0)]
        on_it = 0
        for plane in planes:
            for point in POINTS + [(1, 1, 0, 0), (1, 1, -1, 0), (3, 0, 0, -2), (2, 0, 3, 0)]:
                place, normal = vector(point), plane[1:]
                # The foot in the plane is the point less the normal times this.
                part = Fraction(plane[0] + dot(normal, place)) / square(normal)
                expected = square([part * number for number in normal])
                self.assertEqual(plane_gap(plane, point), pair_of(expected))
                self.assertIs(plane_gap(plane, point) == (0, 1), lies_in(point, plane))
                on_it += lies_in(point, plane)
        self.assertGreater(on_it, 5)
        self.assertEqual(plane_gap((5, 3, 4, 0), (2, 1, 0, 7)), (169, 100))


def two(sort, other, names=("rod", "other")):
    return [(names[0], sort, other[0]), (names[1], sort, other[1])]


PAIR = two(ROD, (FLOOR, BEAM))
CALLS = [(call, PAIR) for call in (gap, is_parallel, slant, square_rod, nearest)] + [
    (call, [("rod", ROD, FLOOR), ("point", POINT, (1, 2, 3, 4))]) for call in (foot, rod_gap)
] + [
    (point_gap, two(POINT, ((1, 2, 3, 4), (2, 3, 4, 5)), ("point", "other"))),
    (plane_gap, [("plane", PLANE, (1, 2, 3, 4)), ("point", POINT, (2, 3, 4, 5))]),
]


class Errors(ErrorChecks, unittest.TestCase):
    def test_by_name(self):
        self.check_by_name(CALLS)

    def test_each_parameter(self):
        self.check_each_parameter(CALLS)

    def test_the_first_of_two_wrong_ones(self):
        self.check_first_of_two(CALLS)

    def test_far(self):
        far = {"rod": FAR_X, "point": (0, 1, 2, 3), "plane": (1, 0, 0, 0)}
        for call, parameters in CALLS:
            names = [name for name, _, _ in parameters]
            far["other"] = far[names[0]]
            good = {name: value for name, _, value in parameters}
            self.check_raised(call, {name: far[name] for name in names}, Far)
            for name in names:
                self.check_raised(call, {**good, name: far[name]}, Far)
            bad = [(name, sort, far[name]) for name, sort, _ in parameters]
            self.check_ahead_of_last([(call, bad, Far)])

    def test_wrong_ones_ahead_of_far_ones(self):
        for value in [None, (2, 0, 0, 0), [1, 0, 0, 0]]:
            with self.assertRaises(InvalidRod):
                gap(FAR_X, value)
            with self.assertRaises(InvalidPoint):
                foot(FAR_X, value)
            with self.assertRaises(InvalidPoint):
                plane_gap((1, 0, 0, 0), value)
            with self.assertRaises(InvalidPoint):
                point_gap((0, 1, 0, 0), value)
            with self.assertRaises(InvalidPlane):
                plane_gap(value, (0, 1, 0, 0))

    def test_far_ahead_of_parallel(self):
        for call in (square_rod, nearest):
            for pair in [(FAR_X, FAR_X), (FAR_X, FAR_Z), (FLOOR, FAR_X), (FAR_Z, FLOOR)]:
                self.check_raised(call, dict(zip(("rod", "other"), pair)), Far)
            for pair in [(FLOOR, FLOOR), (FLOOR, RAIL), (RAIL, FLOOR)]:
                self.check_raised(call, dict(zip(("rod", "other"), pair)), Parallel)
            self.check_ahead_of_last([(call, two(ROD, (FLOOR, RAIL)), Parallel)])

    def test_defined_in_their_file(self):
        self.check_defined(gaps, [call.__name__ for call, _ in CALLS])


if __name__ == "__main__":
    unittest.main()
