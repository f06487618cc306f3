"""Points 15 to 21, and the interface of stringrods/surfaces.py."""

import random
import unittest
from fractions import Fraction
from itertools import product
from math import isqrt

from checks import PLANE, POINT, ROD, SURFACE, ErrorChecks
from references import (
    characteristic, form_signs, gram, noughts, rank_by_fractions, scaled, small_rods, square_rows,
    square_value,
)
from samples import HUGE, NO_SURFACES, crossed_sum, determinant, rows_between
from stringrods import surfaces
from stringrods.errors import Far, Flat, InvalidPoint, Meeting, NotJustOne, NotOnIt
from stringrods.rings import cross_at, ring_at, ring_rod
from stringrods.rods import in_plane, is_rod, on_rod
from stringrods.spaces import is_point, lies_in
from stringrods.surfaces import (
    center, has_rod_on, is_round, is_surface, points_on, rods_at, round_axis, section, surface_at, surface_kind,
    surface_of, tangent, told_points, touches,
)

ACROSS, ALONG, UPRIGHT = (1, 0, 0, 0, 0, 0), (0, 1, 0, 0, 0, 0), (0, 0, 1, 0, 0, 0)
HIGH, MAST = (0, 1, 0, -1, 0, 0), (0, 0, 1, 1, -1, 0)
TOWER = ((0, 1, 1, 0, -1, 1), (1, 0, -1, -1, 0, -1), (0, 1, -1, 0, -1, -1))
SHEET = ((1, 0, 0, 0, 0, 0), (1, 0, 1, 1, 0, -1), (1, 0, -1, 1, 0, 1))
WAIST = (1, 0, 0, 0, -1, 0, 0, -1, 0, 1)
SADDLE = (0, 0, 0, 1, 0, -1, 0, 0, 0, 0)
# w w = x x + y y - 2 z z, with the determinant 2.
UNTOLD = (1, 0, 0, 0, -1, 0, 0, -1, 0, 2)
EGG, BOWL = (1, 0, 0, 0, -1, 0, 0, -1, 0, -1), (0, 0, 0, 1, -1, 0, 0, -1, 0, 0)
BOWLS = (1, 0, 0, 0, 1, 0, 0, 1, 0, -1)
CONE, TUBE = (0, 0, 0, 0, 1, 0, 0, 1, 0, -1), (1, 0, 0, 0, -1, 0, 0, -1, 0, 0)
NOTHING, POINT_KIND = (1, 0, 0, 0, 1, 0, 0, 1, 0, 1), (0, 0, 0, 0, 1, 0, 0, 1, 0, 1)
PLANES, ROD_KIND = (0, 0, 0, 0, 1, 0, 0, -2, 0, 0), (0, 0, 0, 0, 1, 0, 0, 2, 0, 0)
PLANE_KIND = (1, 2, 0, 0, 4, 0, 0, 0, 0, 0)
KINDS = {
    WAIST: "waist", SADDLE: "saddle", UNTOLD: "waist", EGG: "egg", BOWL: "bowl", BOWLS: "bowls", CONE: "cone",
    TUBE: "tube", NOTHING: "nothing", POINT_KIND: "point", PLANES: "planes", ROD_KIND: "rod", PLANE_KIND: "plane",
    (0, 0, 0, 0, 0, 1, 0, 0, 0, 0): "planes", (0, 1, 0, 0, 0, 0, 0, 0, 0, 0): "planes",
    (1, 0, 0, 0, 0, 0, 0, 0, 0, 0): "plane", (1, 0, 0, 0, 1, 0, 0, 0, 0, 0): "rod",
    (1, 0, 0, 0, 1, 0, 0, 1, 0, 0): "point", (1, 0, 0, 0, 1, 0, 0, -1, 0, 0): "tube",
    (0, 0, 0, 1, -1, 0, 0, 1, 0, 0): "saddle", (0, 0, 0, 1, -1, 0, 0, 0, 0, 0): "tube",
    (1, 0, 0, 0, 2, 0, 0, -3, 0, 0): "tube", (1, 1, 0, 0, 2, 0, 0, 1, 1, 1): "point",
    (1, 1, 0, 0, 2, 0, 0, 2, 1, 1): "nothing",
}
SURFACES = list(KINDS)
FULL = [surface for surface in SURFACES if KINDS[surface] in ("waist", "saddle", "egg", "bowl", "bowls", "nothing")]
POINTS = rows_between(-1, 1, 4)
MORE_POINTS = POINTS + [(1, 2, 3, 4), (2, 1, 0, -3), (3, 5, 7, 2), (0, 3, 4, 5)]
FAR_PLANE = (1, 0, 0, 0)
MIDDLE = (1, 0, 0, 0)


def reduced(row):
    return scaled([Fraction(number) for number in row])


def ten(square):
    return reduced([square[i][j] for i in range(4) for j in range(i, 4)])


def moved(surface, table):
    """The surface of all points that the table leads to points of the surface."""
    square = square_rows(surface)
    columns = [[row[at] for row in table] for at in range(4)]
    return ten([[square_value(square, left, right) for right in columns] for left in columns])


def chance_tables(many, low, far_stay):
    """Tables by chance, with determinants other than 0."""
    chance = random.Random(low * 7 + many)
    told = []
    while len(told) < many:
        table = [[chance.randint(low, -low) for _ in range(4)] for _ in range(4)]
        if far_stay:
            table[0] = [chance.choice((1, 2, -1)), 0, 0, 0]
        if determinant(table) != 0:
            told.append(table)
    return told


MOVED = [moved(surface, table) for surface in SURFACES for table in chance_tables(3, -3, False)]
MOVED_FULL = [moved(surface, table) for surface in FULL for table in chance_tables(4, -2, False)]


def value(surface, point):
    return square_value(square_rows(surface), point, point)


def expected_kind(surface):
    """[17], by signs worked out in another way."""
    square = square_rows(surface)
    far = [row[1:] for row in square[1:]]
    above, below, _ = form_signs(square)
    signs = (max(above, below), min(above, below))
    if sum(signs) == 4:
        far_above, far_below, level = form_signs(far)
        if signs == (2, 2):
            return "saddle" if determinant(far) == 0 else "waist"
        if signs == (4, 0):
            return "nothing"
        if level:
            return "bowl"
        return "egg" if 3 in (far_above, far_below) else "bowls"
    if sum(signs) == 3:
        corner = noughts(square, 4)[0]
        return "point" if signs == (3, 0) else "tube" if corner[0] == 0 else "cone"
    return {(1, 1): "planes", (2, 0): "rod", (1, 0): "plane"}[signs]


class Example(unittest.TestCase):
    def test_waist_and_saddle(self):
        waist, saddle = surface_of(*TOWER), surface_of(*SHEET)
        told = [waist, saddle, surface_kind(waist), surface_kind(saddle), surface_at(waist, (1, 2, 0, 0)),
                has_rod_on(waist, TOWER[1]), is_surface((0,) * 10)]
        self.assertEqual(told, [WAIST, SADDLE, "waist", "saddle", -3, True, False])

    def test_kinds(self):
        told = [surface_kind(each) for each in (EGG, BOWL, BOWLS, CONE, TUBE, PLANES)]
        self.assertEqual(told, ["egg", "bowl", "bowls", "cone", "tube", "planes"])

    def test_tangents(self):
        told = [tangent(WAIST, (1, 1, 0, 0)), rods_at(WAIST, (1, 1, 0, 0)), touches(WAIST, (1, -1, 0, 0)),
                touches(WAIST, (0, 0, 0, 1)), rods_at(UNTOLD, (1, 1, 0, 0))]
        self.assertEqual(told, [(1, -1, 0, 0), ((0, 1, -1, 0, 1, 1), (0, 1, 1, 0, -1, 1)), True, False, ()])

    def test_sections(self):
        told = [section(WAIST, (0, 0, 0, 1)), section(WAIST, (1, -1, 0, 0)), section(WAIST, (0, 1, 0, 0)),
                section(WAIST, (1, 0, -1, 1)), section(SADDLE, (0, 0, 0, 1)), section(SADDLE, (0, 1, -1, 0))]
        self.assertEqual(told, ["oval", "rods", "bow", "arch", "rods", "arch"])

    def test_points_and_axes(self):
        told = [points_on(WAIST, ACROSS), told_points(WAIST, ACROSS), points_on(WAIST, UPRIGHT),
                points_on(WAIST, TOWER[0]), told_points(WAIST, (1, 1, 0, 0, 0, 0)), center(WAIST), is_round(WAIST),
                round_axis(WAIST), is_round(SADDLE)]
        self.assertEqual(told, [2, ((1, -1, 0, 0), (1, 1, 0, 0)), 0, "endless", (), MIDDLE, True, UPRIGHT, False])
        with self.assertRaises(Far):
            center(SADDLE)


class WhatIsASurface(unittest.TestCase):
    def test_surfaces(self):
        for surface in SURFACES + MOVED:
            self.assertIs(is_surface(surface), True)
            self.assertIs(is_surface(value=surface), True)
            self.assertIs(is_surface(tuple(-number for number in surface)), False)
            self.assertIs(is_surface(tuple(3 * number for number in surface)), False)
            self.assertIs(is_surface(list(surface)), False)
        self.assertIs(is_surface((0,) * 9 + (1,)), True)
        self.assertIs(is_surface((HUGE, 1) + (0,) * 8), True)

    def test_no_surfaces(self):
        for each in NO_SURFACES:
            self.assertIs(is_surface(each), False)


class SurfaceOf(unittest.TestCase):
    def threes(self):
        chance = random.Random(16)
        rods = small_rods(1)
        told = [TOWER, SHEET, (ACROSS, HIGH, MAST), ((0, 0, 0, 1, 0, 0), (1, 0, 1, 0, -1, 0), (1, 0, 2, 2, 0, -1))]
        while len(told) < 20:
            three = tuple(chance.choice(rods) for _ in range(3))
            if all(crossed_sum(three[a], three[b]) for a, b in ((0, 1), (0, 2), (1, 2))):
                told.append(three)
        return told

    def test_the_only_one_through_all_three(self):
        kinds = set()
        for three in self.threes():
            conditions = []
            for rod in three:
                for point in rod_points(rod):
                    w, x, y, z = point
                    conditions.append((w * w, 2 * w * x, 2 * w * y, 2 * w * z, x * x, 2 * x * y, 2 * x * z,
                                       y * y, 2 * y * z, z * z))
            found = noughts(conditions, 10)
            self.assertEqual(len(found), 1)
            self.assertEqual(surface_of(*three), found[0])
            flat = determinant([rod[:3] for rod in three]) == 0
            self.assertEqual(surface_kind(found[0]), "saddle" if flat else "waist")
            kinds.add(flat)
        self.assertEqual(kinds, {True, False})

    def test_all_rods_of_both_rings(self):
        for three in self.threes()[:8]:
            surface = surface_of(*three)
            for s, t in [(1, 2), (-3, 5), (7, 1)]:
                rod = ring_rod(*three, s, t)
                self.assertIs(has_rod_on(surface, rod), True)
                for point in rod_points(rod):
                    self.assertEqual(surface_at(surface, point), 0)
                    self.assertIs(has_rod_on(surface, cross_at(*three, point)), True)
            for order in (three[::-1], three[1:] + three[:1], tuple(ring_rod(*three, s, 1) for s in (1, 2, 3))):
                self.assertEqual(surface_of(*order), surface)

    def test_its_other_rods(self):
        for three in self.threes()[:4]:
            surface = surface_of(*three)
            for rod in small_rods(1)[::5]:
                ring = rank_by_fractions(three + (rod,)) == 3
                crossing = all(crossed_sum(rod, each) == 0 for each in three)
                self.assertIs(has_rod_on(surface, rod), ring or crossing)


def rod_points(rod):
    """Three points of a rod."""
    d, m = rod[:3], rod[3:]
    if any(d):
        cross = (d[1] * m[2] - d[2] * m[1], d[2] * m[0] - d[0] * m[2], d[0] * m[1] - d[1] * m[0])
        start, way = (sum(number * number for number in d), *cross), (0, *d)
    else:
        start, way = noughts([(1, 0, 0, 0), (0, *m)], 4)
    return [reduced(start), reduced(way), reduced([a + b for a, b in zip(start, way)])]


class Values(unittest.TestCase):
    def test_by_the_ten_numbers(self):
        for surface in SURFACES + MOVED[:10]:
            a, b, c, d, e, f, g, h, i, j = surface
            for w, x, y, z in MORE_POINTS:
                total = a * w * w + e * x * x + h * y * y + j * z * z
                total += 2 * (b * w * x + c * w * y + d * w * z + f * x * y + g * x * z + i * y * z)
                self.assertEqual(surface_at(surface, (w, x, y, z)), total)

    def test_numbers_of_400_figures(self):
        self.assertEqual(surface_at(WAIST, (1, HUGE, 0, 0)), 1 - HUGE * HUGE)
        self.assertEqual(surface_at((HUGE, 1) + (0,) * 8, (1, HUGE, 0, 0)), 3 * HUGE)

    def test_rods_on_it(self):
        for surface in SURFACES:
            for rod in small_rods(1)[::4]:
                all_on = all(value(surface, point) == 0 for point in rod_points(rod))
                self.assertIs(has_rod_on(surface, rod), all_on)


class Kinds(unittest.TestCase):
    def test_by_hand(self):
        for surface in SURFACES:
            self.assertEqual(surface_kind(surface), KINDS[surface], surface)
        self.assertEqual(set(KINDS.values()), {
            "waist", "saddle", "egg", "bowl", "bowls", "nothing", "cone", "tube", "point", "planes", "rod", "plane",
        })

    def test_with_all_signs_turned_round(self):
        for surface in SURFACES:
            turned = tuple(-number for number in surface)
            self.assertEqual(ten(square_rows(turned)), surface)
            self.assertEqual(surface_kind(reduced(turned)), KINDS[surface])

    def test_first_numbers_of_0(self):
        # The same shapes with nought on the slant, or with the other sign ahead.
        self.assertEqual(surface_kind((1, 0, 0, 0, 1, 0, 0, -1, 0, -1)), "waist")
        self.assertEqual(surface_kind((0, 0, 0, 1, 1, 0, 0, 1, 0, 0)), "bowl")
        self.assertEqual(surface_kind((1, 0, 0, 0, -1, 0, 0, -2, 0, -3)), "egg")
        self.assertEqual(surface_kind((1, 0, 0, 0, -1, 0, 0, 1, 0, 1)), "bowls")
        self.assertEqual(surface_kind((0, 1, 0, 0, 0, 0, 0, 0, 1, 0)), "saddle")
        self.assertEqual(surface_kind((1, 0, 0, 0, 0, 1, 0, 0, 0, 1)), "bowls")
        self.assertEqual(surface_kind((1, 0, 0, 0, 0, 1, 0, 0, 0, -1)), "waist")

    def test_maps_that_keep_far_points_far(self):
        for surface in SURFACES:
            for table in chance_tables(6, -3, True):
                self.assertEqual(surface_kind(moved(surface, table)), KINDS[surface])

    def test_by_the_signs(self):
        seen = set()
        for surface in SURFACES + MOVED:
            self.assertEqual(surface_kind(surface), expected_kind(surface))
            seen.add(surface_kind(surface))
        self.assertEqual(len(seen), 12)
        for row in list(product((-1, 0, 1), repeat=10))[::97]:
            if any(row):
                self.assertEqual(surface_kind(reduced(row)), expected_kind(row))

    def test_rods_only_on_waists_and_saddles(self):
        rods = small_rods(1)
        for surface in FULL:
            found = any(has_rod_on(surface, rod) for rod in rods)
            self.assertIs(found, KINDS[surface] in ("waist", "saddle") and surface != UNTOLD)


class Tangent(unittest.TestCase):
    def test_ordinary_points_and_corners(self):
        corners = 0
        for surface in SURFACES + MOVED:
            square = square_rows(surface)
            for point in MORE_POINTS:
                plane = [sum(row[at] * point[at] for at in range(4)) for row in square]
                if value(surface, point) != 0:
                    with self.assertRaises(NotOnIt) as caught:
                        tangent(surface, point)
                    self.assertIs(caught.exception.given, point)
                elif not any(plane):
                    corners += 1
                    self.assertLess(rank_by_fractions(square), 4)
                    with self.assertRaises(Flat):
                        tangent(surface, point)
                else:
                    self.assertEqual(tangent(surface, point), reduced(plane))
                    self.assertIs(lies_in(point, tangent(surface, point)), True)
        self.assertGreater(corners, 20)

    def test_by_hand(self):
        self.assertEqual(tangent(EGG, (1, 1, 0, 0)), (1, -1, 0, 0))
        self.assertEqual(tangent(SADDLE, (1, 2, 3, 6)), (6, -3, -2, 1))
        self.assertEqual(tangent(SADDLE, (0, 1, 0, 0)), (0, 0, 1, 0))
        self.assertEqual(tangent(BOWL, (0, 0, 0, 1)), FAR_PLANE)
        for surface, corner in [(CONE, MIDDLE), (TUBE, (0, 0, 0, 1)), (PLANES, (1, 0, 0, 5)), (POINT_KIND, MIDDLE)]:
            with self.assertRaises(Flat):
                tangent(surface, corner)
        self.assertEqual(tangent(CONE, (1, 3, 4, 5)), (0, 3, 4, -5))

    def test_all_rods_through_a_point_lie_in_it(self):
        for surface in SURFACES:
            for rod in [rod for rod in small_rods(1) if has_rod_on(surface, rod)]:
                for point in rod_points(rod):
                    try:
                        self.assertIs(in_plane(rod, tangent(surface, point)), True)
                    except Flat:
                        self.assertLess(rank_by_fractions(square_rows(surface)), 4)


class Touches(unittest.TestCase):
    def test_by_the_cofactors(self):
        touching = 0
        for surface in FULL + MOVED_FULL:
            square = square_rows(surface)
            for plane in MORE_POINTS:
                # A times the cofactors times A, as a determinant of five rows.
                rows = [list(row) + [number] for row, number in zip(square, plane)] + [[*plane, 0]]
                expected = determinant(rows) == 0
                self.assertIs(touches(surface, plane), expected)
                touching += expected
                if plane != FAR_PLANE:
                    self.assertIs(section(surface, plane) in ("rods", "point"), expected)
        self.assertGreater(touching, 50)

    def test_tangents_touch_and_planes_near_them_do_not(self):
        for surface in FULL:
            for point in MORE_POINTS:
                if value(surface, point) == 0:
                    plane = tangent(surface, point)
                    self.assertIs(touches(surface, plane), True)
        large = 10 ** 50
        for near in [(large + 1, -large, 0, 0), (large, -large - 1, 0, 0), (large, -large, 0, 1)]:
            self.assertIs(touches(WAIST, near), False)
            self.assertIs(touches(EGG, near), False)

    def test_planes_that_touch_in_points_of_none(self):
        # The plane touches the surface, but at no point told beforehand: it is led by the cofactors.
        self.assertIs(touches(EGG, (5, 3, 4, 0)), True)
        self.assertIs(touches(EGG, (5, 3, 4, 1)), False)
        self.assertIs(touches(NOTHING, (5, 3, 4, 0)), False)
        self.assertIs(touches(BOWL, FAR_PLANE), True)
        self.assertIs(touches(SADDLE, FAR_PLANE), True)
        self.assertIs(touches(WAIST, FAR_PLANE), False)


class RodsAt(unittest.TestCase):
    def check_point(self, surface, point):
        rods = rods_at(surface, point)
        whole = determinant(square_rows(surface))
        told = whole > 0 and isqrt(whole) ** 2 == whole
        self.assertEqual(len(rods), 2 if told else 0)
        self.assertIs(rods.__class__, tuple)
        self.assertEqual(list(rods), sorted(set(rods)))
        for rod in rods:
            self.assertIs(is_rod(rod), True)
            self.assertIs(on_rod(point, rod), True)
            self.assertIs(has_rod_on(surface, rod), True)
        return told

    def test_by_the_determinant(self):
        seen = []
        for surface in FULL + MOVED_FULL:
            for point in MORE_POINTS:
                if value(surface, point) == 0:
                    seen.append((self.check_point(surface, point), surface_kind(surface)))
                else:
                    with self.assertRaises(NotOnIt) as caught:
                        rods_at(surface, point)
                    self.assertIs(caught.exception.given, point)
        for pair in [(True, "waist"), (True, "saddle"), (False, "waist"), (False, "egg"), (False, "bowl")]:
            self.assertIn(pair, seen)

    def test_both_rings(self):
        for three in (TOWER, SHEET):
            surface = surface_of(*three)
            for s, t in [(1, 2), (3, -5), (0, 1), (7, 2)]:
                for point in rod_points(ring_rod(*three, s, t)):
                    both = sorted([ring_at(*three, point), cross_at(*three, point)])
                    self.assertEqual(list(rods_at(surface, point)), both)

    def test_saddles_that_are_not_told(self):
        # 2 w z = x x - 2 y y, with the determinant 2.
        surface = (0, 0, 0, 1, -1, 0, 0, 2, 0, 0)
        self.assertEqual(surface_kind(surface), "saddle")
        self.assertEqual(rods_at(surface, (1, 0, 0, 0)), ())
        self.assertEqual(rods_at(surface, (0, 0, 0, 1)), ())
        # 8 is no square, 4 is one: 2 w z = x x - 4 y y.
        surface = (0, 0, 0, 1, -1, 0, 0, 4, 0, 0)
        self.assertEqual(len(rods_at(surface, (1, 0, 0, 0))), 2)
        self.assertEqual(len(rods_at(surface, (0, 2, 1, 0))), 2)

    def test_numbers_of_400_figures(self):
        surface = (HUGE * HUGE, 0, 0, 0, -1, 0, 0, -1, 0, 1)
        self.assertEqual(len(rods_at(surface, (1, HUGE, 0, 0))), 2)
        self.assertEqual(rods_at((HUGE, 0, 0, 0, -HUGE, 0, 0, -1, 0, 2), (1, 1, 0, 0)), ())


def expected_section(surface, plane):
    """[19], by signs worked out in another way."""
    square = square_rows(surface)
    pair = lambda left, right: square_value(square, left, right)
    above, below, _ = form_signs(gram(noughts([plane], 4), pair))
    signs = (max(above, below), min(above, below))
    if signs != (2, 1):
        return {(0, 0): "all", (1, 0): "rod", (1, 1): "rods", (2, 0): "point", (3, 0): "nothing"}[signs]
    (a, b), (_, c) = gram(noughts([plane, FAR_PLANE], 4), pair)
    part = b * b - a * c
    return "oval" if part < 0 else "arch" if part == 0 else "bow"


class Section(unittest.TestCase):
    def test_by_the_signs(self):
        words = set()
        for surface in SURFACES + MOVED[::2]:
            for plane in MORE_POINTS:
                if plane == FAR_PLANE:
                    with self.assertRaises(Far):
                        section(surface, plane)
                    continue
                word = section(surface, plane)
                self.assertEqual(word, expected_section(surface, plane))
                words.add(word)
        self.assertEqual(words, {"all", "rod", "rods", "point", "nothing", "oval", "arch", "bow"})

    def test_by_hand(self):
        self.assertEqual(section(PLANE_KIND, (1, 2, 0, 0)), "all")
        self.assertEqual(section((0, 0, 0, 0, 0, 1, 0, 0, 0, 0), (0, 1, 0, 0)), "all")
        # One plane twice, in another one: a rod; in one that runs beside it: a far rod.
        self.assertEqual(section(PLANE_KIND, (0, 0, 1, 0)), "rod")
        self.assertEqual(section(PLANE_KIND, (5, 2, 0, 0)), "rod")
        self.assertEqual(section(TUBE, (1, -1, 0, 0)), "rod")
        self.assertEqual(section(TUBE, (0, 1, 0, 0)), "rods")
        self.assertEqual(section(TUBE, (2, 1, 0, 0)), "point")
        self.assertEqual(section(TUBE, (0, 0, 0, 1)), "oval")
        self.assertEqual(section(CONE, (0, 0, 0, 1)), "point")
        self.assertEqual(section(CONE, (1, 0, 0, -1)), "oval")
        self.assertEqual(section(CONE, (1, 0, -1, 1)), "arch")
        self.assertEqual(section(CONE, (1, 1, 0, 0)), "bow")
        self.assertEqual(section(CONE, (0, 1, 0, 0)), "rods")
        self.assertEqual(section(CONE, (0, 1, 0, 1)), "rod")
        self.assertEqual(section(EGG, (2, 1, 0, 0)), "nothing")
        self.assertEqual(section(EGG, (1, 1, 0, 0)), "point")
        self.assertEqual(section(EGG, (1, 2, 0, 0)), "oval")
        self.assertEqual(section(NOTHING, (1, 2, 0, 0)), "nothing")
        self.assertEqual(section(POINT_KIND, (0, 1, 0, 0)), "point")
        # w w = x x + y y - 2 z z on z = 0 and on x = 0; rods that need not be told: x x = 2 z z.
        self.assertEqual(section(UNTOLD, (0, 0, 0, 1)), "oval")
        self.assertEqual(section(UNTOLD, (1, 0, -1, 0)), "rods")


class PointsOn(unittest.TestCase):
    def test_by_the_form(self):
        seen = set()
        for surface in SURFACES + MOVED[::3]:
            square = square_rows(surface)
            for rod in small_rods(1)[::6]:
                first, second, _ = rod_points(rod)
                a, b, c = (square_value(square, *pair) for pair in ((first, first), (first, second), (second, second)))
                part = b * b - a * c
                expected = "endless" if (a, b, c) == (0, 0, 0) else 0 if part < 0 else 2 if part else 1
                count, told = points_on(surface, rod), told_points(surface, rod)
                self.assertEqual(count, expected)
                if count == "endless":
                    self.assertIsNone(told)
                    seen.add((count, None))
                    continue
                square_part = part >= 0 and isqrt(part) ** 2 == part
                self.assertEqual(len(told), count if square_part else 0)
                self.assertEqual(list(told), sorted(set(told)))
                for point in told:
                    self.assertIs(is_point(point), True)
                    self.assertEqual(value(surface, point), 0)
                    self.assertIs(on_rod(point, rod), True)
                seen.add((count, len(told)))
        self.assertEqual(seen, {("endless", None), (0, 0), (1, 1), (2, 0), (2, 2)})

    def test_by_hand(self):
        self.assertEqual(told_points(EGG, (0, 1, 0, 0, 0, 1)), ((1, 1, 0, 0),))
        self.assertEqual(told_points(SADDLE, UPRIGHT), ((0, 0, 0, 1), (1, 0, 0, 0)))
        self.assertEqual(told_points(WAIST, (0, 0, 0, 0, 0, 1)), ())
        self.assertEqual((points_on(WAIST, (0, 0, 0, 0, 0, 1)), points_on(WAIST, (0, 0, 0, 0, 1, 0))), (0, 2))
        self.assertEqual(told_points(WAIST, (0, 0, 0, 0, 1, 0)), ((0, 1, 0, -1), (0, 1, 0, 1)))
        self.assertEqual((points_on(WAIST, (1, 1, 0, 0, 0, 0)), told_points(WAIST, (1, 1, 0, 0, 0, 0))), (2, ()))
        self.assertEqual((points_on(EGG, (0, 1, 0, 0, 0, 2)), told_points(EGG, (0, 1, 0, 0, 0, 2))), (0, ()))
        # One point, told by a fraction, on a rod of the cone through its corner.
        self.assertEqual(told_points(CONE, UPRIGHT), (MIDDLE,))
        self.assertIsNone(told_points(CONE, (1, 0, 1, 0, 0, 0)))


class Center(unittest.TestCase):
    def test_by_hand(self):
        for surface in (WAIST, EGG, BOWLS, NOTHING, UNTOLD):
            self.assertEqual(center(surface), MIDDLE)
        # (x - 1) (x - 1) + (2 y + 1) (2 y + 1) + z z = 9
        self.assertEqual(center((7, 1, -2, 0, -1, 0, 0, -4, 0, -1)), (2, 2, -1, 0))
        for surface in (SADDLE, BOWL, (0, 0, 0, 1, -1, 0, 0, 4, 0, 0)):
            with self.assertRaises(Far):
                center(surface)

    def test_points_opposite_the_center(self):
        far = 0
        kept = [moved(surface, table) for surface in (SADDLE, BOWL, UNTOLD) for table in chance_tables(5, -3, True)]
        for surface in FULL + MOVED_FULL + kept:
            square = square_rows(surface)
            if surface_kind(surface) in ("saddle", "bowl"):
                far += 1
                with self.assertRaises(Far):
                    center(surface)
                continue
            middle = center(surface)
            self.assertIs(is_point(middle), True)
            self.assertEqual([sum(a * b for a, b in zip(row, middle)) for row in square[1:]], [0, 0, 0])
            for point in MORE_POINTS:
                # (w, x) goes to 2 c - x, with the first number of the center.
                w, c = point[0], middle[0]
                other = (c * w, *(2 * w * k - c * x for k, x in zip(middle[1:], point[1:])))
                self.assertEqual(value(surface, other), c * c * value(surface, point))
        self.assertGreater(far, 5)


def turned_table(axis, quarter):
    """A table that turns space about an axis that is not far, by an angle that one number tells."""
    d = axis[:3]
    long = sum(number * number for number in d)
    start = rod_points(axis)[0]
    place = [Fraction(number, start[0]) for number in start[1:]]
    full = quarter * quarter + long
    matrix = [[2 * d[i] * d[j] + (quarter * quarter - long if i == j else 0) for j in range(3)] for i in range(3)]
    for i, j, k in ((0, 1, 2), (1, 2, 0), (2, 0, 1)):
        matrix[i][j] -= 2 * quarter * d[k]
        matrix[j][i] += 2 * quarter * d[k]
    matrix = [[Fraction(number, full) for number in row] for row in matrix]
    moves = [place[i] - sum(matrix[i][j] * place[j] for j in range(3)) for i in range(3)]
    return [[1, 0, 0, 0]] + [[moves[i], *matrix[i]] for i in range(3)]


def round_surfaces():
    """Surfaces with N = l + f n n, by chance, with their axes' directions."""
    chance = random.Random(21)
    told = []
    while len(told) < 40:
        way = [chance.randint(-3, 3) for _ in range(3)]
        level, factor = chance.randint(-4, 4), chance.randint(-3, 3)
        if not any(way) or factor == 0:
            continue
        edge = [chance.randint(-3, 3) for _ in range(4)]
        square = [edge] + [[edge[i + 1]] + [factor * way[i] * way[j] + (level if i == j else 0) for j in range(3)]
                           for i in range(3)]
        if determinant(square) != 0:
            told.append((ten(square), reduced(way)))
    return told


class Round(unittest.TestCase):
    def test_turned_about_the_axis(self):
        kinds = set()
        for surface, way in round_surfaces() + [(WAIST, (0, 0, 1)), (BOWL, (0, 0, 1)), (UNTOLD, (0, 0, 1))]:
            self.assertIs(is_round(surface), True)
            axis = round_axis(surface)
            self.assertIs(is_rod(axis), True)
            self.assertEqual(rank_by_fractions([axis[:3], way]), 1)
            for quarter in (0, 1, 3, -2):
                self.assertEqual(moved(surface, turned_table(axis, quarter)), surface)
            kinds.add(surface_kind(surface))
        self.assertGreaterEqual(kinds, {"waist", "egg", "bowls", "bowl"})

    def test_bowls_by_hand(self):
        # 2 w z = x x + y y moved by 3 along the first axis.
        self.assertEqual(round_axis((9, -3, 0, -1, 1, 0, 0, 1, 0, 0)), (0, 0, 1, 0, -3, 0))
        self.assertEqual(round_axis(BOWL), UPRIGHT)
        self.assertEqual(round_axis(BOWLS), UPRIGHT)
        self.assertEqual(round_axis((1, 0, 0, 0, -1, 0, 0, -4, 0, -4)), ACROSS)
        self.assertEqual(round_axis((1, 0, 0, 0, -4, 0, 0, -1, 0, -4)), ALONG)

    def test_more_than_one_axis(self):
        for surface in [EGG, NOTHING, (4, 1, 2, 3, -5, 0, 0, -5, 0, -5), (2, 1, 1, 1, 3, 0, 0, 3, 0, 3)]:
            self.assertIs(is_round(surface), True)
            with self.assertRaises(NotJustOne):
                round_axis(surface)

    def test_exactly_with_a_twofold_number(self):
        seen = set()
        for surface in FULL + MOVED_FULL + [each for each, _ in round_surfaces()]:
            far = [row[1:] for row in square_rows(surface)[1:]]
            _, b, c, d = characteristic(far)
            twofold = b * b * c * c - 4 * c ** 3 - 4 * b ** 3 * d - 27 * d * d + 18 * b * c * d == 0
            self.assertIs(is_round(surface), twofold)
            seen.add(twofold)
            if not twofold:
                self.assertIsNone(round_axis(surface))
        self.assertEqual(seen, {True, False})

    def test_never_a_saddle(self):
        for surface in MOVED_FULL + FULL:
            if surface_kind(surface) == "saddle":
                self.assertIs(is_round(surface), False)
                self.assertIsNone(round_axis(surface))

    def test_not_round(self):
        for surface in [(1, 0, 0, 0, -1, 0, 0, -2, 0, -3), (1, 0, 0, 0, -1, 1, 0, -2, 0, -5),
                        (1, 0, 0, 0, -1, 0, 0, -2, 0, 3), (1, 0, 0, 0, 0, 1, 0, 0, 0, 5),
                        (1, 0, 0, 0, 1, 1, 1, 2, 1, 3)]:
            self.assertIs(is_round(surface), False)
            self.assertIsNone(round_axis(surface))

    def test_forms_without_a_slant(self):
        # x y + x z + y z, and the same seen in the mirror x to -x.
        self.assertEqual(round_axis((1, 0, 0, 0, 0, 1, 1, 0, 1, 0)), (1, 1, 1, 0, 0, 0))
        self.assertEqual(round_axis((1, 0, 0, 0, 0, 1, 1, 0, -1, 0)), (1, -1, -1, 0, 0, 0))


CALLS = [
    (surface_of, [("rod", ROD, TOWER[0]), ("other", ROD, TOWER[1]), ("third", ROD, TOWER[2])]),
    (surface_at, [("surface", SURFACE, WAIST), ("point", POINT, (1, 2, 3, 4))]),
    (surface_kind, [("surface", SURFACE, WAIST)]),
    (has_rod_on, [("surface", SURFACE, WAIST), ("rod", ROD, ALONG)]),
    (tangent, [("surface", SURFACE, WAIST), ("point", POINT, (1, 1, 0, 0))]),
    (touches, [("surface", SURFACE, WAIST), ("plane", PLANE, (1, 2, 3, 4))]),
    (rods_at, [("surface", SURFACE, WAIST), ("point", POINT, (1, 1, 0, 0))]),
    (section, [("surface", SURFACE, WAIST), ("plane", PLANE, (1, 2, 3, 4))]),
    (points_on, [("surface", SURFACE, WAIST), ("rod", ROD, ALONG)]),
    (told_points, [("surface", SURFACE, WAIST), ("rod", ROD, ALONG)]),
    (center, [("surface", SURFACE, WAIST)]),
    (is_round, [("surface", SURFACE, WAIST)]),
    (round_axis, [("surface", SURFACE, WAIST)]),
]


class Errors(ErrorChecks, unittest.TestCase):
    def test_by_name(self):
        self.check_by_name(CALLS)

    def test_each_parameter(self):
        self.check_each_parameter(CALLS)

    def test_the_first_of_two_wrong_ones(self):
        self.check_first_of_two(CALLS)

    def test_meeting_is_last(self):
        for three in [(ACROSS, ACROSS, HIGH), (ACROSS, HIGH, ACROSS), (HIGH, ACROSS, ACROSS), (ACROSS, ALONG, UPRIGHT)]:
            names = [(name, ROD, rod) for name, rod in zip(("rod", "other", "third"), three)]
            self.check_ahead_of_last([(surface_of, names, Meeting)])

    def test_flat_is_last(self):
        surface = ("surface", SURFACE, CONE)
        self.check_ahead_of_last([
            (touches, [surface, ("plane", PLANE, (1, 2, 3, 4))], Flat),
            (rods_at, [surface, ("point", POINT, MIDDLE)], Flat),
            (center, [surface], Flat), (is_round, [surface], Flat), (round_axis, [surface], Flat),
            (tangent, [surface, ("point", POINT, MIDDLE)], Flat),
            (section, [surface, ("plane", PLANE, FAR_PLANE)], Far),
            (center, [("surface", SURFACE, SADDLE)], Far),
            (round_axis, [("surface", SURFACE, EGG)], NotJustOne),
        ])
        low = [each for each in SURFACES if each not in FULL]
        for each in low:
            for call in (center, is_round, round_axis):
                self.check_raised(call, {"surface": each}, Flat)
            for plane in (FAR_PLANE, (0, 1, 0, 0)):
                self.check_raised(touches, {"surface": each, "plane": plane}, Flat)

    def test_the_order_of_both(self):
        # rods_at: Flat ahead of NotOnIt; tangent: NotOnIt ahead of Flat.
        self.check_raised(rods_at, {"surface": CONE, "point": (1, 1, 0, 0)}, Flat)
        self.check_raised(tangent, {"surface": CONE, "point": (1, 1, 0, 0)}, NotOnIt, "given", (1, 1, 0, 0))
        self.check_raised(rods_at, {"surface": WAIST, "point": MIDDLE}, NotOnIt, "given", MIDDLE)
        self.check_raised(tangent, {"surface": WAIST, "point": MIDDLE}, NotOnIt, "given", MIDDLE)
        # A far plane is told for a section alone, and of each rank.
        self.check_raised(section, {"surface": PLANES, "plane": FAR_PLANE}, Far)
        with self.assertRaises(InvalidPoint):
            tangent(CONE, (2, 0, 0, 0))

    def test_defined_in_their_file(self):
        self.check_defined(surfaces, [call.__name__ for call, _ in CALLS] + ["is_surface"])


if __name__ == "__main__":
    unittest.main()
