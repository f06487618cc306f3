"""Point 35 (and 8, 28 for the rods that it tells), and the interface of stringrods/cubics.py."""

import unittest
from itertools import combinations, combinations_with_replacement, product

from checks import CUBIC, POINT, ROD, SIX, ErrorChecks
from references import base_in_stairs, noughts, rank_by_fractions
from samples import HUGE, PLAIN, crossed_sum, rows_between
from shapes import (
    ACROSS, ALONG, FIRST_SIX, GREAT, GREAT_SIX, LED_SIXES, MAPS, NO_CUBICS, SIXES, SMALL, UPRIGHT, cut_of, ends_of,
    led_rod, led_six, six_by_roots, times_row, turned_rod, whole,
)
from stringrods import cubics
from stringrods.cubics import (
    all_rods, cubic_at, cubic_through, has_rod, is_cubic, six_pairs, stars, tangent_plane, three_planes,
)
from stringrods.errors import Flat, InvalidCubic, NotOnIt, NotSix
from stringrods.gaps import gap
from stringrods.lots import meeters_count, rank
from stringrods.rods import do_meet, in_plane, is_rod, meeting_plane, meeting_point, on_rod
from stringrods.screws import net_of
from stringrods.sixes import are_six, double_six
from stringrods.spaces import is_plane, is_point
from stringrods.tables import plane_by, point_by, rod_by

ALL_SIXES = SIXES + LED_SIXES
TERMS = list(combinations_with_replacement(range(4), 3))
POINTS = rows_between(-1, 1, 4) + [(1, 2, 3, 4), (3, 5, 7, 2), (0, 3, 4, 5), (2, -3, 1, 7)]
C_PAIRS = list(combinations(range(6), 2))


def sum_of(cubic, point):
    """[35]: www, wwx, .., zzz."""
    return sum(n * point[i] * point[j] * point[k] for n, (i, j, k) in zip(cubic, TERMS))


def points_on(rod, many):
    """So many points of a rod, not reduced."""
    first, second = ends_of(rod)
    return [[a + at * b for a, b in zip(first, second)] for at in range(many - 1)] + [list(second)]


def slopes(cubic, point):
    """The slopes by the four numbers, from the sums at points beside it."""
    told = []
    for unit in PLAIN:
        after, before = ([a + sign * b for a, b in zip(point, unit)] for sign in (1, -1))
        told.append((sum_of(cubic, after) - sum_of(cubic, before)) // 2 - sum_of(cubic, unit))
    return told


def product_of(planes):
    """The cubic that is three planes, term by term."""
    numbers = dict.fromkeys(TERMS, 0)
    for term in product(range(4), repeat=3):
        numbers[tuple(sorted(term))] += planes[0][term[0]] * planes[1][term[1]] * planes[2][term[2]]
    return whole(list(numbers.values()))


# A double six with six stars.
MANY_STARS = six_by_roots(ACROSS, (
    (1, -1, -2, 0, 0, 0), (1, -1, 2, 0, 2, 1), (1, 1, -1, 0, -3, -3), (1, 1, 0, 0, 0, -2), (1, 1, 1, 0, -1, 1),
))
# x x x + y y y + z z z, a cone; w w w = x y z.
CONE_TERMS = {(1, 1, 1): 1, (2, 2, 2): 1, (3, 3, 3): 1}
CONE = tuple(CONE_TERMS.get(term, 0) for term in TERMS)
FLAT = product_of([(1, 0, 0, 0), (0, 1, 0, 0), (0, 0, 1, 0)])
KNOT = tuple({(0, 0, 0): 1, (1, 2, 3): -1}.get(term, 0) for term in TERMS)
DIAGONAL = tuple({(0, 0, 0): 1, (1, 1, 1): 1, (2, 2, 2): 1, (3, 3, 3): 1}.get(term, 0) for term in TERMS)


class Example(unittest.TestCase):
    def test_the_interface(self):
        tops, bases = FIRST_SIX
        body, whole_lot = cubic_through(tops, bases), all_rods(tops, bases)
        told = [len(whole_lot), whole_lot[:6] == tops, whole_lot[6:12] == bases,
                all([has_rod(body, rod) for rod in whole_lot]), has_rod(body, ALONG), cubic_at(body, (1, 5, 0, 0))]
        self.assertEqual(told, [27, True, True, True, False, 0])
        self.assertEqual([len([1 for rod in whole_lot if do_meet(rod, each)]) for each in whole_lot], [11] * 27)
        told = [len(three_planes(tops, bases)), len(six_pairs(tops, bases)), six_pairs(tops, bases)[0]]
        self.assertEqual(told, [45, 36, ((0, 1, 2, 3, 4, 5), (6, 7, 8, 9, 10, 11))])


class WhatIsACubic(unittest.TestCase):
    def test_cubics(self):
        for cubic in (CONE, FLAT, KNOT, DIAGONAL, (1,) + (0,) * 19, (0,) * 19 + (1,), (0, 3) + (-2,) * 18, (1,) * 20,
                      (HUGE, -HUGE + 1) + (0,) * 18, (0,) * 10 + (1,) * 10):
            self.assertIs(is_cubic(cubic), True)
            self.assertIs(is_cubic(value=cubic), True)
            self.assertIs(is_cubic(list(cubic)), False)
            for factor in (-1, 2, -3, HUGE):
                self.assertIs(is_cubic(tuple(factor * number for number in cubic)), False)

    def test_no_cubics(self):
        for value in NO_CUBICS:
            self.assertIs(is_cubic(value), False)
        for value in (FIRST_SIX, PLAIN, CONE + (0,), CONE[:19], (CONE,)):
            self.assertIs(is_cubic(value), False)
        for at in range(20):
            for value in (True, False, None, "1", (1,)):
                self.assertIs(is_cubic((1,) * at + (value,) + (1,) * (19 - at)), False)


class Sums(unittest.TestCase):
    def test_each_number_at_its_place(self):
        point = (2, 3, 5, 7)
        for at, (i, j, k) in enumerate(TERMS):
            cubic = tuple(int(place == at) for place in range(20))
            self.assertEqual(cubic_at(cubic, point), point[i] * point[j] * point[k])
        words = "www wwx wwy wwz wxx wxy wxz wyy wyz wzz xxx xxy xxz xyy xyz xzz yyy yyz yzz zzz".split()
        self.assertEqual(["".join("wxyz"[at] for at in term) for term in TERMS], words)

    def test_on_and_off_it(self):
        for rods, others in ALL_SIXES + [GREAT_SIX]:
            cubic = cubic_through(rods, others)
            for rod in rods + others:
                for point in points_on(rod, 4):
                    self.assertEqual(cubic_at(cubic, whole(point)), 0)
            told = [cubic_at(cubic, point) for point in POINTS]
            self.assertEqual(told, [sum_of(cubic, point) for point in POINTS])
            self.assertTrue(any(told))


class Through(unittest.TestCase):
    def test_the_only_one(self):
        for rods, others in ALL_SIXES:
            # Nineteen conditions and more: just one row of twenty is left.
            rows = [[p[i] * p[j] * p[k] for i, j, k in TERMS] for rod in rods + others for p in points_on(rod, 4)]
            base = noughts(base_in_stairs(rows), 20)
            self.assertEqual(len(base), 1)
            told = cubic_through(rods, others)
            self.assertEqual(told, base[0])
            self.assertIs(is_cubic(told), True)

    def test_the_same_for_each_double_six_of_the_27(self):
        for rods, others in ALL_SIXES[:3]:
            cubic, told = cubic_through(rods, others), all_rods(rods, others)
            for first, second in six_pairs(rods, others):
                one, two = tuple(told[at] for at in first), tuple(told[at] for at in second)
                self.assertIs(are_six(one, two), True)
                self.assertEqual(double_six(two[5], one[:5]), (one, two))
                self.assertEqual(cubic_through(one, two), cubic)
                self.assertEqual(sorted(all_rods(one, two)), sorted(told))

    def test_of_great_numbers(self):
        rods, others = GREAT_SIX
        cubic = cubic_through(rods, others)
        self.assertIs(is_cubic(cubic), True)
        told = all_rods(rods, others)
        self.assertEqual(told, tuple(led_rod(GREAT, rod) for rod in all_rods(*SIXES[2])))
        self.assertTrue(all(has_rod(cubic, rod) for rod in told))
        self.assertFalse(has_rod(cubic, ALONG))
        planes = [(three, plane_by(GREAT, plane)) for three, plane in three_planes(*SIXES[2])]
        self.assertEqual(list(three_planes(rods, others)), planes)


class OnIt(unittest.TestCase):
    def test_all_of_the_27_and_no_others(self):
        for rods, others in ALL_SIXES:
            cubic, told = cubic_through(rods, others), all_rods(rods, others)
            for rod in told:
                self.assertIs(has_rod(cubic, rod), True)
            for rod in SMALL + [led_rod(MAPS[1], rod) for rod in told]:
                expected = not any(sum_of(cubic, point) for point in points_on(rod, 5))
                self.assertIs(has_rod(cubic, rod), expected)
                self.assertIs(expected, rod in told)

    def test_two_and_three_points_are_not_enough(self):
        # On the planes w = 0, x = 0, y = 0 each other rod has three points at most.
        for rod in SMALL:
            inside = any(in_plane(rod, plane) for plane in PLAIN[:3])
            self.assertIs(has_rod(FLAT, rod), inside)
        self.assertIs(has_rod(DIAGONAL, cut_of((1, 1, 0, 0), (0, 0, 1, 1))), True)
        self.assertIs(has_rod(DIAGONAL, cut_of((1, 1, 0, 0), (0, 0, 1, -1))), False)
        # The four points 0, 1, -1 and endless of a rod tell a form of degree three.
        for numbers in ((1, 0, 0, 0), (0, 1, 0, 0), (0, 0, 1, 0), (0, 0, 0, 1), (0, 1, 0, -1), (1, 0, -1, 0)):
            cubic = [0] * 20
            for term, number in zip(((0, 0, 0), (0, 0, 1), (0, 1, 1), (1, 1, 1)), numbers):
                cubic[TERMS.index(term)] = number
            self.assertIs(has_rod(tuple(cubic), ACROSS), False)
            # On the points (0, 0, y, z) all these are nought.
            self.assertIs(has_rod(tuple(cubic), (0, 0, 0, 1, 0, 0)), True)


class Tangents(unittest.TestCase):
    def test_on_double_sixes(self):
        for rods, others in ALL_SIXES:
            cubic, told = cubic_through(rods, others), all_rods(rods, others)
            for rod in told:
                for point in [whole(point) for point in points_on(rod, 4)]:
                    plane = tangent_plane(cubic, point)
                    self.assertEqual(plane, whole(slopes(cubic, point)))
                    self.assertIs(is_plane(plane), True)
                    # All rods through a point lie in its tangent plane.
                    for each in told:
                        if on_rod(point, each):
                            self.assertIs(in_plane(each, plane), True)
            for i, j in combinations(range(27), 2):
                if do_meet(told[i], told[j]):
                    point = meeting_point(told[i], told[j])
                    self.assertEqual(tangent_plane(cubic, point), meeting_plane(told[i], told[j]))

    def test_off_it(self):
        for cubic in (cubic_through(*FIRST_SIX), CONE, FLAT, KNOT, DIAGONAL):
            seen = set()
            for point in POINTS:
                if sum_of(cubic, point) != 0:
                    with self.assertRaises(NotOnIt) as caught:
                        tangent_plane(cubic, point)
                    self.assertIs(caught.exception.given, point)
                    seen.add("off")
                elif not any(slopes(cubic, point)):
                    with self.assertRaises(Flat):
                        tangent_plane(cubic, point)
                    seen.add("double")
                else:
                    self.assertEqual(tangent_plane(cubic, point), whole(slopes(cubic, point)))
                    seen.add("on")
            self.assertLessEqual({"off", "on"}, seen)
            self.assertIs("double" in seen, cubic in (CONE, FLAT, KNOT))

    def test_by_hand(self):
        self.assertEqual(tangent_plane(FLAT, (0, 1, 1, 5)), (1, 0, 0, 0))
        self.assertEqual(tangent_plane(DIAGONAL, (1, -1, 0, 0)), (1, 1, 0, 0))
        self.assertEqual(tangent_plane(KNOT, (1, 1, 1, 1)), (3, -1, -1, -1))
        for cubic, point in ((FLAT, (0, 0, 1, 5)), (CONE, (1, 0, 0, 0)), (KNOT, (0, 1, 0, 0)), (FLAT, (0, 0, 0, 1)),
                             (product_of([(1, 0, 0, 0)] * 3), (0, 1, 2, 3))):
            with self.assertRaises(Flat) as caught:
                tangent_plane(cubic, point)
            self.assertEqual(vars(caught.exception), {})
        with self.assertRaises(NotOnIt):
            tangent_plane(CONE, (0, 1, 0, 0))


class AllRods(unittest.TestCase):
    def test_the_order(self):
        for rods, others in ALL_SIXES:
            told = all_rods(rods, others)
            self.assertIs(told.__class__, tuple)
            self.assertEqual((told[:6], told[6:12], len(told), len(set(told))), (rods, others, 27, 27))
            for (i, j), rod in zip(C_PAIRS, told[12:]):
                self.assertIs(is_rod(rod), True)
                planes = [meeting_plane(rods[i], others[j]), meeting_plane(rods[j], others[i])]
                self.assertEqual(rod, cut_of(*planes))
                for at in range(6):
                    self.assertIs(do_meet(rod, rods[at]), at in (i, j))
                    self.assertIs(do_meet(rod, others[at]), at in (i, j))
                for pair, other in zip(C_PAIRS, told[12:]):
                    self.assertIs(do_meet(rod, other), pair == (i, j) or not {i, j} & set(pair))

    def test_each_meets_ten_others(self):
        for rods, others in ALL_SIXES + [GREAT_SIX]:
            told = all_rods(rods, others)
            for rod in told:
                self.assertEqual(len([1 for each in told if crossed_sum(rod, each) == 0]), 11)

    def test_halves_exchanged_and_another_order(self):
        rods, others = FIRST_SIX
        told, back = all_rods(rods, others), all_rods(others, rods)
        self.assertEqual((back[:6], back[6:12], back[12:]), (told[6:12], told[:6], told[12:]))
        order = (3, 1, 5, 0, 2, 4)
        turned = all_rods(tuple(rods[at] for at in order), tuple(others[at] for at in order))
        for (i, j), rod in zip(C_PAIRS, turned[12:]):
            pair = tuple(sorted((order[i], order[j])))
            self.assertEqual(rod, told[12 + C_PAIRS.index(pair)])

    def test_points_8_and_28(self):
        for rods, others in SIXES[:2]:
            told = all_rods(rods, others)
            for one, two in combinations(told, 2):
                self.assertIs(do_meet(one, two), bool(set_of_points(one, two)))
                if not do_meet(one, two):
                    self.assertEqual(rank((one, two)), 2)
            # Five of a six are in the net of one rod alone; the six are of none, so none meets all.
            for at in range(6):
                self.assertEqual(net_of(rods[:at] + rods[at + 1:]), others[at])
            self.assertEqual((rank(rods), rank_by_fractions(rods), meeters_count(rods)), (6, 6, 0))


def set_of_points(one, two):
    """The common points of two unlike rods: where the planes of both, two of each, have a point in common."""
    rows = []
    for rod in (one, two):
        d, m = list(rod[:3]), list(rod[3:])
        for point in PLAIN:
            w, x = point[0], point[1:]
            plane = [-sum(a * b for a, b in zip(m, x))]
            plane += [w * m[at] + d[(at + 1) % 3] * x[(at + 2) % 3] - d[(at + 2) % 3] * x[(at + 1) % 3]
                      for at in range(3)]
            rows.append(plane)
    return noughts(rows, 4)


class Planes(unittest.TestCase):
    def test_the_45(self):
        for rods, others in ALL_SIXES:
            whole_lot, told = all_rods(rods, others), three_planes(rods, others)
            self.assertIs(told.__class__, tuple)
            self.assertEqual((len(told), len(set(told))), (45, 45))
            self.assertEqual(list(told), sorted(told))
            self.assertEqual(len({plane for _, plane in told}), 45)
            meets = [three for three in combinations(range(27), 3)
                     if all(crossed_sum(whole_lot[i], whole_lot[j]) == 0 for i, j in combinations(three, 2))]
            self.assertEqual([three for three, _ in told], meets)
            for (i, j, k), plane in told:
                self.assertTrue(i < j < k)
                self.assertIs(is_plane(plane), True)
                inside = [at for at in range(27) if in_plane(whole_lot[at], plane)]
                self.assertEqual(inside, [i, j, k])

    def test_which_ones(self):
        threes = [three for three, _ in three_planes(*FIRST_SIX)]
        expected = [(i, 6 + j, 12 + C_PAIRS.index((min(i, j), max(i, j))))
                    for i in range(6) for j in range(6) if i != j]
        self.assertEqual(len(expected), 30)
        for one, two, three in combinations(C_PAIRS, 3):
            if len(set(one + two + three)) == 6:
                expected.append(tuple(12 + C_PAIRS.index(pair) for pair in (one, two, three)))
        self.assertEqual(threes, sorted(expected))

    def test_each_rod_in_five(self):
        threes = [three for three, _ in three_planes(*SIXES[1])]
        for at in range(27):
            self.assertEqual(len([1 for three in threes if at in three]), 5)


def sixes_by_search(whole_lot):
    """All double sixes among rods, by going through all sixes of them each two of which are apart."""
    apart = [[crossed_sum(one, two) != 0 for two in whole_lot] for one in whole_lot]
    sets = [()]
    for _ in range(6):
        sets = [each + (at,) for each in sets for at in range(each[-1] + 1 if each else 0, len(whole_lot))
                if all(apart[at][one] for one in each)]
    told = []
    for first in sets:
        second = []
        for left in first:
            fit = [at for at in range(len(whole_lot)) if all(apart[at][one] == (one == left) for one in first)]
            second += [at for at in fit if at not in first]
        if len(second) == 6 and first[0] < min(second) and second not in first:
            told.append((first, tuple(second)))
    return sorted(told)


class Pairs(unittest.TestCase):
    def test_the_36(self):
        for rods, others in ALL_SIXES:
            whole_lot, told = all_rods(rods, others), six_pairs(rods, others)
            self.assertIs(told.__class__, tuple)
            self.assertEqual((len(told), len(set(told))), (36, 36))
            self.assertEqual(list(told), sorted(told))
            for first, second in told:
                self.assertEqual({first.__class__, second.__class__}, {tuple})
                self.assertEqual(list(first), sorted(first))
                self.assertEqual(min(first + second), first[0])
                self.assertEqual(len(set(first + second)), 12)
                one, two = (tuple(whole_lot[at] for at in half) for half in (first, second))
                self.assertIs(are_six(one, two), True)

    def test_by_search(self):
        for rods, others in SIXES[:2]:
            self.assertEqual(list(six_pairs(rods, others)), sixes_by_search(all_rods(rods, others)))


class Stars(unittest.TestCase):
    def stars_by_search(self, whole_lot):
        points = {}
        for one, two in combinations(whole_lot, 2):
            if crossed_sum(one, two) == 0:
                point = meeting_point(one, two)
                points[point] = [rod for rod in whole_lot if on_rod(point, rod)]
        self.assertLessEqual({len(rods) for rods in points.values()}, {2, 3})
        return sorted(point for point, rods in points.items() if len(rods) == 3)

    def test_all_of_them(self):
        counts = []
        for rods, others in ALL_SIXES:
            told = stars(rods, others)
            self.assertIs(told.__class__, tuple)
            self.assertEqual(list(told), self.stars_by_search(all_rods(rods, others)))
            self.assertTrue(all(is_point(point) for point in told))
            counts.append(len(told))
        self.assertEqual(stars(*FIRST_SIX), ((1, 0, -4, 4),))
        self.assertIn(0, counts)

    def test_with_several(self):
        rods, others = MANY_STARS
        told = stars(rods, others)
        self.assertEqual(list(told), self.stars_by_search(all_rods(rods, others)))
        self.assertEqual(len(told), 6)
        for point in told:
            plane = tangent_plane(cubic_through(rods, others), point)
            self.assertEqual(len([1 for _, each in three_planes(rods, others) if each == plane]), 1)


class Pictures(unittest.TestCase):
    def test_led_by_tables(self):
        for six in SIXES[:2]:
            cubic, whole_lot = cubic_through(*six), all_rods(*six)
            for table in MAPS:
                led = led_six(table, six)
                there = cubic_through(*led)
                self.assertEqual(all_rods(*led), tuple(rod_by(table, rod) for rod in whole_lot))
                self.assertEqual(stars(*led), tuple(sorted(point_by(table, point) for point in stars(*six))))
                self.assertEqual(six_pairs(*led), six_pairs(*six))
                planes = [(three, plane_by(table, plane)) for three, plane in three_planes(*six)]
                self.assertEqual(list(three_planes(*led)), planes)
                for rod in whole_lot[::4]:
                    self.assertIs(has_rod(there, rod_by(table, rod)), True)
                    point = whole(points_on(rod, 3)[1])
                    self.assertEqual(tangent_plane(there, point_by(table, point)),
                                     plane_by(table, tangent_plane(cubic, point)))
                for point in POINTS:
                    self.assertIs(cubic_at(there, point_by(table, point)) == 0, cubic_at(cubic, point) == 0)

    def test_led_to_planes(self):
        # The planes of three rods go to the stars, and the other way round.
        rods, others = (tuple(turned_rod(MAPS[5], rod) for rod in half) for half in FIRST_SIX)
        planes = [times_row(MAPS[5], point) for point in stars(*FIRST_SIX)]
        self.assertEqual(len(planes), 1)
        # Rods that went through one point lie in one plane now; those of a plane through one point.
        whole_lot = all_rods(rods, others)
        self.assertTrue(all(has_rod(cubic_through(rods, others), rod) for rod in whole_lot))
        self.assertIn(planes[0], [plane for _, plane in three_planes(rods, others)])

    def test_gaps_stay_by_a_rigid_table(self):
        rigid = ((3, 0, 0, 0), (1, 1, 2, 2), (0, 2, 1, -2), (-5, 2, -2, 1))
        led = led_six(rigid, FIRST_SIX)
        near = [at for at, rod in enumerate(all_rods(*FIRST_SIX)) if any(rod[:3])]
        for i, j in list(combinations(near, 2))[::9]:
            one, two = all_rods(*FIRST_SIX), all_rods(*led)
            self.assertEqual(gap(one[i], one[j]), gap(two[i], two[j]))


SWAPPED = (FIRST_SIX[0][1], FIRST_SIX[0][0]) + FIRST_SIX[0][2:]
SIX_CALLS = [(call, [("rods", SIX, FIRST_SIX[0]), ("others", SIX, FIRST_SIX[1])])
             for call in (cubic_through, all_rods, three_planes, six_pairs, stars)]
CALLS = [
    (cubic_at, [("cubic", CUBIC, KNOT), ("point", POINT, (1, 2, 3, 4))]),
    (has_rod, [("cubic", CUBIC, KNOT), ("rod", ROD, UPRIGHT)]),
    (tangent_plane, [("cubic", CUBIC, KNOT), ("point", POINT, (1, 1, 1, 1))]),
] + SIX_CALLS


class Errors(ErrorChecks, unittest.TestCase):
    def test_by_name(self):
        self.check_by_name(CALLS)

    def test_each_parameter(self):
        self.check_each_parameter(CALLS)

    def test_the_first_of_two_wrong_ones(self):
        self.check_first_of_two(CALLS)

    def test_not_six_is_last(self):
        rods, others = FIRST_SIX
        for one, two in ((rods, rods), (SWAPPED, others), (others, SWAPPED), (rods[:5] + (ALONG,), others)):
            for call, _ in SIX_CALLS:
                self.check_ahead_of_last([(call, [("rods", SIX, one), ("others", SIX, two)], NotSix)])

    def test_not_on_it_and_flat_are_last(self):
        good = {"cubic": CONE, "point": (1, 1, 0, 0)}
        self.check_raised(tangent_plane, good, NotOnIt, "given", good["point"])
        for point in ((1, 0, 0, 0), (1, 1, 0, 0)):
            for cubic in NO_CUBICS[::4]:
                self.check_raised(tangent_plane, {"cubic": cubic, "point": point}, InvalidCubic, "given", cubic)
        self.check_ahead_of_last([(tangent_plane, [("cubic", CUBIC, CONE), ("point", POINT, (1, 0, 0, 0))], Flat)])
        # A point off a cubic with double points, one that is none of them, is not flat but off.
        self.check_raised(tangent_plane, {"cubic": FLAT, "point": (1, 1, 1, 1)}, NotOnIt, "given", (1, 1, 1, 1))

    def test_defined_in_their_file(self):
        self.check_defined(cubics, ["is_cubic"] + [call.__name__ for call, _ in CALLS])


if __name__ == "__main__":
    unittest.main()
