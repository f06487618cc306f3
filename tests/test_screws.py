"""Points 25 to 28, and the interface of stringrods/screws.py."""

import random
import unittest
from fractions import Fraction
from math import isqrt

from checks import LOT, PLANE, POINT, ROD, SCREW, ErrorChecks
from references import meeting_rows, rank_by_fractions, scaled, small_rods
from samples import HUGE, NO_SCREWS, crossed_sum, rows_between
from stringrods import screws
from stringrods.errors import Far, Flat, InvalidLot, NotJustOne, Same
from stringrods.lots import meeters_count
from stringrods.rods import do_meet, is_rod, on_rod
from stringrods.screws import (
    axis, flats_count, in_net, is_flat, is_screw, net_of, pitch, pole, pole_plane, screw_product, told_flats,
    turned_rod,
)
from stringrods.spaces import is_plane, is_point, join, lies_in

AHEAD, ASIDE, UP = (1, 0, 0, 0, 0, 0), (0, 1, 0, 0, 0, 0), (0, 0, 1, 0, 0, 0)
AUGER, RIM = (0, 0, 1, 0, 0, 1), (0, 0, 0, 0, 0, 1)
FAR_X, FAR_Y = (0, 0, 0, 1, 0, 0), (0, 0, 0, 0, 1, 0)
HIGH = (0, 1, 0, -1, 0, 0)
NET = (AHEAD, ASIDE, FAR_X, FAR_Y, (1, 0, 1, 1, 0, -1), (0, 1, 1, 0, 1, -1))
LARGE = (1, HUGE, 0, 3, 0, HUGE)
RODS = small_rods(1)
POINTS = rows_between(-1, 1, 4) + [(1, 2, 3, 4), (3, 5, 7, 2), (0, 3, 4, 5), (HUGE, 1, 2, 3)]


def picked_screws():
    """Screws by chance, flat ones and others."""
    chance = random.Random(25)
    told = [AUGER, (1, 0, 0, 1, 0, 0), (0, 0, 2, 0, 2, 3), (1, 0, 0, -3, 0, 0), (1, 2, 3, 4, 5, 6), LARGE]
    told.append((2, 0, 0, 3, 0, 0))
    while len(told) < 40:
        row = [chance.randint(-4, 4) for _ in range(6)]
        if any(row):
            told.append(scaled([Fraction(number) for number in row]))
    return told


SCREWS = picked_screws() + RODS[::40]
CURVED = [screw for screw in SCREWS if crossed_sum(screw, screw) != 0]


def sum_of(x, screw, y, other):
    return [x * a + y * b for a, b in zip(screw, other)]


class Example(unittest.TestCase):
    def test_screws(self):
        told = [is_screw((0, 0, 2, 0, 0, 2)), screw_product(AUGER, AUGER), is_flat(AUGER), is_flat(RIM),
                in_net(AUGER, AHEAD), in_net(AUGER, UP)]
        self.assertEqual(told, [False, 2, False, True, True, False])

    def test_poles(self):
        told = [pole_plane(AUGER, (1, 1, 0, 0)), pole(AUGER, (0, 0, 1, 1)), turned_rod(AUGER, UP) == RIM,
                turned_rod(AUGER, RIM) == UP, turned_rod(AUGER, AHEAD) == AHEAD]
        self.assertEqual(told, [(0, 0, 1, 1), (1, 1, 0, 0), True, True, True])

    def test_axes(self):
        told = [pitch(AUGER), axis(AUGER) == UP, pitch((1, 0, 0, 0, 1, 0)), axis((0, 0, 2, 0, 2, 3)),
                net_of((AHEAD, ASIDE, FAR_X, FAR_Y, (1, 0, 1, 1, 0, -1)))]
        self.assertEqual(told, [(1, 1), True, (0, 1), (0, 0, 1, 0, 1, 0), (0, 0, 1, 0, 0, 1)])

    def test_flats(self):
        told = [flats_count(AUGER, UP), told_flats(AUGER, UP), flats_count(AHEAD, ASIDE), told_flats(AHEAD, ASIDE),
                flats_count(AUGER, (1, 0, 0, 1, 0, 0)), flats_count(AUGER, AHEAD), told_flats(AUGER, AHEAD)]
        self.assertEqual(told, [2, (RIM, UP), "endless", None, 0, 1, (AHEAD,)])

    def test_errors(self):
        with self.assertRaises(Flat):
            pole_plane(AHEAD, (1, 0, 0, 0))
        with self.assertRaises(Far):
            pitch(RIM)


class WhatIsAScrew(unittest.TestCase):
    def test_screws(self):
        for screw in SCREWS + RODS:
            self.assertIs(is_screw(screw), True)
            self.assertIs(is_screw(value=screw), True)
            self.assertIs(is_screw(list(screw)), False)
            self.assertIs(is_screw(tuple(-number for number in screw)), False)
            self.assertIs(is_screw(tuple(5 * number for number in screw)), False)

    def test_every_small_row(self):
        for row in rows_between(-1, 1, 6):
            self.assertIs(is_screw(row), True)

    def test_no_screws(self):
        for value in NO_SCREWS:
            self.assertIs(is_screw(value), False)


class Products(unittest.TestCase):
    def test_products_and_nets(self):
        flat = set()
        for screw in SCREWS:
            for other in SCREWS:
                self.assertEqual(screw_product(screw, other), crossed_sum(screw, other))
            self.assertIs(is_flat(screw), crossed_sum(screw, screw) == 0)
            self.assertIs(is_flat(screw), is_rod(screw))
            flat.add(is_flat(screw))
            for rod in RODS[::9]:
                self.assertIs(in_net(screw, rod), crossed_sum(screw, rod) == 0)
        self.assertEqual(flat, {True, False})

    def test_the_net_of_a_flat_one(self):
        for rod in RODS[::30]:
            for other in RODS[::7]:
                self.assertIs(in_net(rod, other), do_meet(rod, other))

    def test_numbers_of_400_figures(self):
        self.assertEqual(screw_product(LARGE, LARGE), 6)
        self.assertEqual(screw_product(LARGE, (0, 0, 1, 0, 1, 0)), 2 * HUGE)


class Poles(unittest.TestCase):
    def test_there_and_back(self):
        for screw in CURVED:
            for point in POINTS:
                plane = pole_plane(screw, point)
                self.assertIs(is_plane(plane), True)
                self.assertIs(lies_in(point, plane), True)
                self.assertEqual(pole(screw, plane), point)
                other = pole(screw, point)
                self.assertIs(is_point(other), True)
                self.assertIs(lies_in(other, point), True)
                self.assertEqual(pole_plane(screw, other), point)

    def test_exactly_the_rods_of_the_net(self):
        for screw in CURVED[::4]:
            for point in POINTS[::5]:
                plane = pole_plane(screw, point)
                for end in POINTS[::3]:
                    if end != point:
                        self.assertIs(in_net(screw, join(point, end)), lies_in(end, plane))

    def test_one_in_the_pole_plane_of_the_other(self):
        for screw in CURVED[::4]:
            for point in POINTS[::3]:
                for other in POINTS[::4]:
                    there = lies_in(other, pole_plane(screw, point))
                    self.assertIs(there, lies_in(point, pole_plane(screw, other)))

    def test_far_points_and_the_far_plane(self):
        # The auger's far plane is that of the far point of its axis.
        self.assertEqual(pole_plane(AUGER, (0, 0, 0, 1)), (1, 0, 0, 0))
        self.assertEqual(pole(AUGER, (1, 0, 0, 0)), (0, 0, 0, 1))
        self.assertEqual(pole_plane(AUGER, (0, 1, 0, 0)), (0, 0, 1, 0))
        self.assertEqual(pole_plane(AUGER, (1, 0, 0, 5)), (5, 0, 0, -1))
        # (0, 0, 1) x (x, y, z) + w (0, 0, 1) = (-y, x, w), and -z ahead.
        self.assertEqual(pole_plane(AUGER, (3, 5, 4, 6)), (6, 4, -5, -3))
        self.assertEqual(pole(AUGER, (6, 4, -5, -3)), (3, 5, 4, 6))


class Turned(unittest.TestCase):
    def test_twice_and_what_stays(self):
        stays = set()
        for screw in CURVED:
            for rod in RODS[::9] + [AHEAD, ASIDE, UP, RIM]:
                turned = turned_rod(screw, rod)
                self.assertIs(is_rod(turned), True)
                self.assertEqual(turned_rod(screw, turned), rod)
                self.assertIs(turned == rod, crossed_sum(screw, rod) == 0)
                stays.add(turned == rod)
        self.assertEqual(stays, {True, False})

    def test_meeting_stays(self):
        for screw in CURVED[::3]:
            for rod in RODS[::31]:
                for other in RODS[::17]:
                    there = do_meet(turned_rod(screw, rod), turned_rod(screw, other))
                    self.assertIs(there, do_meet(rod, other))

    def test_the_pole_planes_meet_in_it(self):
        for screw in CURVED[::3]:
            for point in POINTS[::7]:
                for end in POINTS[1::9]:
                    if point != end:
                        turned = turned_rod(screw, join(point, end))
                        d, m = turned[:3], turned[3:]
                        for each in (point, end):
                            a, *n = pole_plane(screw, each)
                            # The rod lies in the plane: n . d = 0 and n x m = a d.
                            cross = [n[1] * m[2] - n[2] * m[1], n[2] * m[0] - n[0] * m[2], n[0] * m[1] - n[1] * m[0]]
                            self.assertEqual(sum(x * y for x, y in zip(n, d)), 0)
                            self.assertEqual(cross, [a * number for number in d])


class PitchAndAxis(unittest.TestCase):
    def test_each(self):
        signs = set()
        for screw in SCREWS:
            d, m = screw[:3], screw[3:]
            if not any(d):
                for call in (pitch, axis):
                    with self.assertRaises(Far):
                        call(screw)
                continue
            told, rod = pitch(screw), axis(screw)
            climb = Fraction(sum(a * b for a, b in zip(d, m)), sum(a * a for a in d))
            self.assertEqual(told, (climb.numerator, climb.denominator))
            self.assertEqual(rod, scaled([Fraction(a) for a in d] + [b - climb * a for a, b in zip(d, m)]))
            self.assertIs(is_rod(rod), True)
            self.assertEqual(rank_by_fractions([rod[:3], d]), 1)
            self.assertIs(told == (0, 1), is_flat(screw))
            signs.add((told[0] > 0) - (told[0] < 0))
            # The motion leads each point of the axis along it.
            for point in POINTS[::11]:
                if on_rod(point, rod) and point[0]:
                    self.assertIn(rank_by_fractions([motion(screw, point), d]), (0, 1))
        self.assertEqual(signs, {-1, 0, 1})

    def test_the_motion_and_the_pole_planes(self):
        for screw in CURVED:
            for point in [point for point in POINTS[::5] if point[0]]:
                plane = pole_plane(screw, point)
                way = motion(screw, point)
                if any(way):
                    self.assertEqual(rank_by_fractions([plane[1:], way]), 1)

    def test_by_hand(self):
        self.assertEqual(pitch((1, 0, 0, -3, 0, 0)), (-3, 1))
        self.assertEqual(axis((1, 0, 0, -3, 0, 0)), AHEAD)
        self.assertEqual(pitch((0, 0, 2, 0, 2, 3)), (3, 2))
        self.assertEqual(axis(HIGH), HIGH)
        self.assertEqual(pitch((1, 1, 0, 1, 0, 0)), (1, 2))
        self.assertEqual(axis((1, 1, 0, 1, 0, 0)), (2, 2, 0, 1, -1, 0))


def motion(screw, point):
    """m + d x x, times the first number of the point."""
    d, m, w, (x, y, z) = screw[:3], screw[3:], point[0], point[1:]
    return [w * m[0] + d[1] * z - d[2] * y, w * m[1] + d[2] * x - d[0] * z, w * m[2] + d[0] * y - d[1] * x]


class NetOf(unittest.TestCase):
    def test_five_six_and_eight_rods(self):
        self.assertEqual(net_of(NET[:5]), AUGER)
        self.assertEqual(net_of(NET), AUGER)
        self.assertEqual(net_of(NET + NET[:2]), AUGER)
        self.assertEqual(net_of(NET[::-1] + (AHEAD,)), AUGER)
        # Five rods that meet one rod: the net of this one.
        meeting = (AHEAD, ASIDE, FAR_X, FAR_Y, (0, 1, 1, 0, 0, 0))
        self.assertEqual(net_of(meeting), UP)
        self.assertIs(is_flat(net_of(meeting)), True)
        self.assertIs(is_flat(net_of(NET)), False)

    def test_by_chance(self):
        chance = random.Random(28)
        found = 0
        for many in [4, 5, 6, 7, 8] * 40:
            pool = [rod for rod in RODS if crossed_sum(rod, chance.choice((AUGER, UP, (1, 0, 0, 2, 0, 0)))) == 0]
            lot = tuple(chance.choice(pool) for _ in range(many))
            if rank_by_fractions(lot) != 5:
                with self.assertRaises(NotJustOne):
                    net_of(lot)
                continue
            found += 1
            screw = net_of(lot)
            self.assertEqual([screw], meeting_rows(lot))
            self.assertIs(is_screw(screw), True)
            self.assertTrue(all(in_net(screw, rod) for rod in lot))
            self.assertIs(is_flat(screw), meeters_count(lot) == 1)
        self.assertGreater(found, 50)

    def test_other_ranks(self):
        for lot in [(AHEAD,), NET[:4], (AHEAD,) * 8, (AHEAD, ASIDE, UP, FAR_X, FAR_Y, RIM)]:
            with self.assertRaises(NotJustOne):
                net_of(lot)


class Flats(unittest.TestCase):
    def test_by_the_mixture_number(self):
        seen = set()
        for screw in SCREWS:
            for other in SCREWS:
                if screw == other:
                    continue
                a, b, c = crossed_sum(screw, screw), crossed_sum(screw, other), crossed_sum(other, other)
                mixture = b * b - a * c
                expected = "endless" if (a, b, c) == (0, 0, 0) else 0 if mixture < 0 else 2 if mixture else 1
                self.assertEqual(flats_count(screw, other), expected)
                self.assertEqual(flats_count(other, screw), expected)
                told = told_flats(screw, other)
                if expected == "endless":
                    self.assertIsNone(told)
                    seen.add((expected, None))
                    continue
                whole = mixture >= 0 and isqrt(mixture) ** 2 == mixture
                self.assertEqual(len(told), expected if whole else 0)
                self.assertEqual(list(told), sorted(set(told)))
                self.assertEqual(told_flats(other, screw), told)
                for rod in told:
                    self.assertIs(is_rod(rod), True)
                    self.assertEqual(rank_by_fractions([rod, screw, other]), 2)
                seen.add((expected, len(told)))
        self.assertEqual(seen, {("endless", None), (0, 0), (1, 1), (2, 0), (2, 2)})

    def test_by_hand(self):
        # x x 2 + y y (-4): two that are not told. x x 2 + y y (-2): two that are.
        self.assertEqual(flats_count(AUGER, (1, 0, 0, -2, 0, 0)), 2)
        self.assertEqual(told_flats(AUGER, (1, 0, 0, -2, 0, 0)), ())
        self.assertEqual(told_flats(AUGER, (1, 0, 0, -1, 0, 0)), ((1, 0, -1, -1, 0, -1), (1, 0, 1, -1, 0, 1)))
        self.assertEqual(told_flats(AHEAD, (1, 0, 0, -2, 0, 0)), ((0, 0, 0, 1, 0, 0), AHEAD))
        self.assertEqual(told_flats((1, 0, 0, -2, 0, 0), AHEAD), ((0, 0, 0, 1, 0, 0), AHEAD))
        self.assertEqual(told_flats(AHEAD, HIGH), (HIGH, AHEAD))

    def test_the_rods_of_both_nets(self):
        # [28]: they are those that meet two rods, here RIM and UP.
        for rod in RODS:
            both = in_net(AUGER, rod) and in_net(UP, rod)
            self.assertIs(both, do_meet(RIM, rod) and do_meet(UP, rod))

    def test_numbers_of_400_figures(self):
        self.assertEqual(told_flats((1, 0, 0, HUGE, 0, 0), (0, 1, 0, 0, -HUGE, 0)),
                         ((1, -1, 0, HUGE, HUGE, 0), (1, 1, 0, HUGE, -HUGE, 0)))
        self.assertEqual(told_flats((1, 0, 0, HUGE, 0, 0), (0, 1, 0, 0, -HUGE - 1, 0)), ())


CALLS = [
    (screw_product, [("screw", SCREW, AUGER), ("other", SCREW, (1, 2, 3, 4, 5, 6))]),
    (is_flat, [("screw", SCREW, AUGER)]),
    (in_net, [("screw", SCREW, AUGER), ("rod", ROD, UP)]),
    (pole_plane, [("screw", SCREW, AUGER), ("point", POINT, (1, 2, 3, 4))]),
    (pole, [("screw", SCREW, AUGER), ("plane", PLANE, (1, 2, 3, 4))]),
    (turned_rod, [("screw", SCREW, AUGER), ("rod", ROD, UP)]),
    (pitch, [("screw", SCREW, AUGER)]),
    (axis, [("screw", SCREW, AUGER)]),
    (net_of, [("lot", LOT, NET)]),
    (flats_count, [("screw", SCREW, AUGER), ("other", SCREW, (1, 0, 0, -1, 0, 0))]),
    (told_flats, [("screw", SCREW, AUGER), ("other", SCREW, (1, 0, 0, -1, 0, 0))]),
]


class Errors(ErrorChecks, unittest.TestCase):
    def test_by_name(self):
        self.check_by_name(CALLS)

    def test_each_parameter(self):
        self.check_each_parameter(CALLS)

    def test_the_first_of_two_wrong_ones(self):
        self.check_first_of_two(CALLS)

    def test_what_is_told_last(self):
        self.check_ahead_of_last([
            (pole_plane, [("screw", SCREW, UP), ("point", POINT, (1, 2, 3, 4))], Flat),
            (pole, [("screw", SCREW, RIM), ("plane", PLANE, (1, 2, 3, 4))], Flat),
            (turned_rod, [("screw", SCREW, HIGH), ("rod", ROD, HIGH)], Flat),
            (pitch, [("screw", SCREW, RIM)], Far),
            (axis, [("screw", SCREW, (0, 0, 0, 2, 3, 0))], Far),
            (flats_count, [("screw", SCREW, AUGER), ("other", SCREW, tuple(list(AUGER)))], Same),
            (told_flats, [("screw", SCREW, UP), ("other", SCREW, tuple(list(UP)))], Same),
            (net_of, [("lot", LOT, NET[:4])], NotJustOne),
        ])

    def test_flat_for_each_flat_one(self):
        for rod in RODS[::5]:
            for call, last in ((pole_plane, (1, 0, 0, 0)), (pole, (1, 0, 0, 0)), (turned_rod, AHEAD)):
                with self.assertRaises(Flat):
                    call(rod, last)

    def test_wrong_lots(self):
        with self.assertRaises(InvalidLot) as caught:
            net_of(NET[:4] + (AUGER,))
        self.assertEqual(caught.exception.index, 4)

    def test_defined_in_their_file(self):
        self.check_defined(screws, [call.__name__ for call, _ in CALLS] + ["is_screw"])


if __name__ == "__main__":
    unittest.main()
