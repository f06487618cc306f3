"""Points 31 and 32, and the interface of stringrods/tables.py."""

import random
import unittest
from fractions import Fraction
from itertools import permutations

from checks import PLANE, POINT, ROD, SCREW, TABLE, ErrorChecks
from references import scaled, small_rods
from samples import (
    ANYTHING, HUGE, NO_FOURS, NO_TABLES, PLAIN, crossed_sum, determinant, in_line, is_reduced, rows_between,
)
from stringrods import tables
from stringrods.errors import InvalidPoints
from stringrods.gaps import gap, point_gap
from stringrods.rods import do_meet, hand, in_plane, is_rod, on_rod
from stringrods.screws import is_screw
from stringrods.spaces import cut, is_plane, is_point, join, lies_in
from stringrods.tables import (
    back_table, five_to_five, followed, is_rigid, is_table, keeps_hands, plane_by, point_by, rod_by, screw_by,
)

UP, AUGER = (0, 0, 1, 0, 0, 0), (0, 0, 1, 0, 0, 1)
SHIFT, MIRROR = ((1, 0, 0, 0), (1, 1, 0, 0)) + PLAIN[2:], PLAIN[:3] + ((0, 0, 0, -1),)
TALL = PLAIN[:3] + ((0, 0, 0, 2),)
# Far points move, all of them, to the plane y = 0.
FAR_MOVED = ((0, 0, 1, 0), (0, 1, 0, 0), (1, 0, 0, 0), (0, 0, 0, 1))
FIVE = PLAIN + ((1, 1, 1, 1),)
# A turn by the angle of 3, 4 and 5 about the third axis, and on by (1, 2, 3); all numbers times 5.
TURN = ((5, 0, 0, 0), (5, 3, -4, 0), (10, 4, 3, 0), (15, 0, 0, 5))
POINTS = rows_between(-1, 1, 4) + [(1, 2, 3, 4), (3, 5, 7, 2), (0, 3, 4, 5), (2, -3, 1, 7)]
RODS = small_rods(1)


def reduced(row):
    return scaled([Fraction(number) for number in row])


def as_table(rows):
    numbers = reduced([number for row in rows for number in row])
    return tuple(numbers[at:at + 4] for at in (0, 4, 8, 12))


def picked_tables():
    chance = random.Random(31)
    told = [PLAIN, SHIFT, MIRROR, TALL, FAR_MOVED, TURN, (PLAIN[3],) + PLAIN[:3]]
    told.append(as_table([[2, 4, 6, 8], [0, 2, 0, 0], [0, 0, -4, 2], [6, 0, 0, 2]]))
    told.append(((1, HUGE, 0, 0), (0, 1, 0, 0), (0, 0, HUGE, 1), (0, 2, 1, 0)))
    while len(told) < 25:
        rows = [[chance.randint(-3, 3) for _ in range(4)] for _ in range(4)]
        if determinant(rows) != 0:
            told.append(as_table(rows))
    return told


TABLES = picked_tables()


def led(table, point):
    return reduced([sum(a * b for a, b in zip(row, point)) for row in table])


class Example(unittest.TestCase):
    def test_what_they_lead(self):
        told = [point_by(SHIFT, (1, 0, 0, 0)), plane_by(SHIFT, (0, 1, 0, 0)), rod_by(SHIFT, UP),
                rod_by(TALL, (0, 1, 0, -1, 0, 0)), screw_by(MIRROR, AUGER)]
        self.assertEqual(told, [
            (1, 1, 0, 0), (1, -1, 0, 0), (0, 0, 1, 0, -1, 0), (0, 1, 0, -2, 0, 0), (0, 0, 1, 0, 0, -1),
        ])

    def test_tables(self):
        told = [followed(SHIFT, back_table(SHIFT)) == PLAIN, back_table(SHIFT)[1], followed(TALL, TALL)[3],
                is_table(PLAIN[:3] + ((0, 0, 0, 0),)), is_table((PLAIN[1],) + PLAIN[1:])]
        self.assertEqual(told, [True, (-1, 1, 0, 0), (0, 0, 0, 4), False, False])

    def test_hands_and_rigid_ones(self):
        told = [keeps_hands(SHIFT), keeps_hands(MIRROR), keeps_hands(TALL)]
        told += [is_rigid(SHIFT), is_rigid(MIRROR), is_rigid(TALL)]
        self.assertEqual(told, [True, False, True, True, True, False])

    def test_five(self):
        self.assertIs(five_to_five(FIVE, FIVE) == PLAIN, True)
        self.assertIs(five_to_five(FIVE, PLAIN + ((1, 1, 1, 2),)) == TALL, True)
        with self.assertRaises(InvalidPoints) as caught:
            five_to_five(FIVE, PLAIN + ((1, 1, 0, 0),))
        self.assertEqual(caught.exception.index, 4)


class WhatIsATable(unittest.TestCase):
    def test_tables(self):
        for table in TABLES:
            self.assertIs(is_table(table), True)
            self.assertIs(is_table(value=table), True)
            self.assertIs(is_table([list(row) for row in table]), False)
            for factor in (-1, 2, HUGE):
                self.assertIs(is_table(tuple(tuple(factor * number for number in row) for row in table)), False)

    def test_reduced_together(self):
        # Each row has a common divisor, all of them together have none.
        self.assertIs(is_table(((2, 0, 0, 0), (0, 3, 0, 0), (0, 0, 5, 0), (0, 0, 0, -7))), True)
        self.assertIs(is_table(((2, 0, 0, 0), (0, 4, 0, 0), (0, 0, 6, 0), (0, 0, 0, -8))), False)
        self.assertIs(is_table(((0, 0, 0, 1), (-1, 0, 0, 0), (0, -1, 0, 0), (0, 0, -1, 0))), True)
        self.assertIs(is_table(((0, 0, 0, -1), (1, 0, 0, 0), (0, 1, 0, 0), (0, 0, 1, 0))), False)

    def test_no_tables(self):
        for value in NO_TABLES + ANYTHING:
            self.assertIs(is_table(value), False)

    def test_small_determinants(self):
        chance = random.Random(32)
        seen = set()
        for _ in range(300):
            rows = tuple(tuple(chance.randint(-1, 1) for _ in range(4)) for _ in range(4))
            numbers = [number for row in rows for number in row]
            expected = any(numbers) and is_reduced(numbers) and determinant(rows) != 0
            self.assertIs(is_table(rows), bool(expected))
            seen.add(bool(expected))
        self.assertEqual(seen, {True, False})


class Led(unittest.TestCase):
    def test_points_and_planes(self):
        for table in TABLES:
            for point in POINTS:
                told = point_by(table, point)
                self.assertEqual(told, led(table, point))
                self.assertIs(is_point(told), True)
            for plane in POINTS[::2]:
                told = plane_by(table, plane)
                self.assertIs(is_plane(told), True)
                for point in POINTS[::3]:
                    self.assertIs(lies_in(led(table, point), told), lies_in(point, plane))

    def test_rods_are_joins_of_the_points_led(self):
        for table in TABLES:
            for point in POINTS[::5]:
                for other in POINTS[1::7]:
                    if point == other:
                        continue
                    told = rod_by(table, join(point, other))
                    self.assertIs(is_rod(told), True)
                    self.assertEqual(told, join(led(table, point), led(table, other)))
                    told = rod_by(table, cut(point, other))
                    self.assertEqual(told, cut(plane_by(table, point), plane_by(table, other)))

    def test_what_lies_in_one_another_stays_so(self):
        for table in TABLES[::3]:
            for rod in RODS[::9]:
                there = rod_by(table, rod)
                for point in POINTS[::5]:
                    self.assertIs(on_rod(led(table, point), there), on_rod(point, rod))
                    self.assertIs(in_plane(there, plane_by(table, point)), in_plane(rod, point))
                for other in RODS[::11]:
                    self.assertIs(do_meet(there, rod_by(table, other)), do_meet(rod, other))

    def test_screws_keep_products_but_for_the_determinant(self):
        chance = random.Random(33)
        for table in TABLES:
            for _ in range(12):
                screw, other = ([chance.randint(-3, 3) for _ in range(6)] for _ in range(2))
                if not any(screw) or not any(other):
                    continue
                there, too = by_lines(table, screw), by_lines(table, other)
                self.assertEqual(crossed_sum(there, too), determinant(table) * crossed_sum(screw, other))
                self.assertEqual(screw_by(table, reduced(screw)), reduced(there))
                self.assertIs(is_screw(screw_by(table, reduced(screw))), True)
            for rod in RODS[::7]:
                self.assertEqual(screw_by(table, rod), rod_by(table, rod))

    def test_far_points_moved(self):
        for point in [point for point in POINTS if point[0] == 0]:
            self.assertEqual(point_by(FAR_MOVED, point)[2], 0)
        self.assertEqual(plane_by(FAR_MOVED, (1, 0, 0, 0)), (0, 0, 1, 0))
        self.assertEqual(plane_by(SHIFT, (1, 0, 0, 0)), (1, 0, 0, 0))
        self.assertEqual(rod_by(FAR_MOVED, (0, 0, 0, 0, 0, 1)), (1, 0, 0, 0, 0, 0))


def by_lines(table, row):
    """T L T turned over, number by number, not reduced."""
    d, m = row[:3], row[3:]
    lines = [[0, d[0], d[1], d[2]], [-d[0], 0, m[2], -m[1]], [-d[1], -m[2], 0, m[0]], [-d[2], m[1], -m[0], 0]]
    there = [[sum(table[i][k] * lines[k][n] * table[j][n] for k in range(4) for n in range(4)) for j in range(4)]
             for i in range(4)]
    return [there[0][1], there[0][2], there[0][3], there[2][3], there[3][1], there[1][2]]


class Behind(unittest.TestCase):
    def test_the_first_one_first(self):
        for table in TABLES[::2]:
            for other in TABLES[::3]:
                both = followed(table, other)
                self.assertIs(is_table(both), True)
                for point in POINTS[::7]:
                    self.assertEqual(led(both, point), led(other, led(table, point)))
        self.assertEqual(followed(SHIFT, TALL), ((1, 0, 0, 0), (1, 1, 0, 0), (0, 0, 1, 0), (0, 0, 0, 2)))
        # Twice as long and then on by 1, or on by 1 and then twice as long.
        long = ((1, 0, 0, 0), (0, 2, 0, 0)) + PLAIN[2:]
        self.assertEqual(followed(long, SHIFT)[1], (1, 2, 0, 0))
        self.assertEqual(followed(SHIFT, long)[1], (2, 2, 0, 0))

    def test_back(self):
        for table in TABLES:
            back = back_table(table)
            self.assertIs(is_table(back), True)
            self.assertEqual(followed(table, back), PLAIN)
            self.assertEqual(followed(back, table), PLAIN)
            self.assertEqual(back_table(back), table)
            for rod in RODS[::19]:
                self.assertEqual(rod_by(back, rod_by(table, rod)), rod)
            for plane in POINTS[::9]:
                self.assertEqual(plane_by(back, plane_by(table, plane)), plane)

    def test_reduced_together(self):
        self.assertEqual(back_table(TALL), ((2, 0, 0, 0), (0, 2, 0, 0), (0, 0, 2, 0), (0, 0, 0, 1)))
        self.assertEqual(followed(TALL, back_table(TALL)), PLAIN)
        turned = ((0, 1, 0, 0), (-1, 0, 0, 0), (0, 0, 1, 0), (0, 0, 0, 1))
        self.assertEqual(back_table(turned), ((0, 1, 0, 0), (-1, 0, 0, 0), (0, 0, -1, 0), (0, 0, 0, -1)))

    def test_numbers_grow(self):
        table = TABLES[-1]
        for _ in range(8):
            table = followed(table, table)
            self.assertIs(is_table(table), True)
            self.assertEqual(followed(back_table(table), table), PLAIN)


class Hands(unittest.TestCase):
    def test_exactly_if_hands_stay(self):
        chance = random.Random(34)
        seen = set()
        for table in TABLES:
            expected = determinant(table) > 0
            self.assertIs(keeps_hands(table), expected)
            seen.add(expected)
            tried = 0
            while tried < 6:
                three = [chance.choice(RODS) for _ in range(3)]
                parts = [crossed_sum(three[a], three[b]) for a, b in ((0, 1), (0, 2), (1, 2))]
                if 0 not in parts:
                    tried += 1
                    there = [rod_by(table, rod) for rod in three]
                    self.assertIs(hand(*there) == hand(*three), expected)
        self.assertEqual(seen, {True, False})


class Rigid(unittest.TestCase):
    def test_rigid_ones(self):
        half = ((3, 0, 0, 0), (1, 1, 2, 2), (0, 2, 1, -2), (-5, 2, -2, 1))
        mirrored = ((3, 0, 0, 0), (1, -1, 2, 2), (0, 2, -1, 2), (-5, 2, 2, -1))
        large = ((1, 0, 0, 0), (HUGE, 0, 1, 0), (0, 0, 0, -1), (7, -1, 0, 0))
        kept = set()
        for table in [PLAIN, SHIFT, MIRROR, TURN, half, mirrored, large, followed(TURN, half), back_table(half)]:
            self.assertIs(is_table(table), True)
            self.assertIs(is_rigid(table), True)
            kept.add(keeps_hands(table))
            for point in [point for point in POINTS if point[0]][::3]:
                for other in [point for point in POINTS if point[0]][::4]:
                    self.assertEqual(point_gap(led(table, point), led(table, other)), point_gap(point, other))
            near = [rod for rod in RODS if any(rod[:3])][::13]
            for rod in near:
                for other in near:
                    self.assertEqual(gap(rod_by(table, rod), rod_by(table, other)), gap(rod, other))
        self.assertEqual(kept, {True, False})

    def test_others(self):
        others = [
            TALL, FAR_MOVED, PLAIN[1:2] + PLAIN[:1] + PLAIN[2:],
            # All larger, and all smaller.
            ((1, 0, 0, 0), (0, 2, 0, 0), (0, 0, 2, 0), (0, 0, 0, 2)),
            ((2, 0, 0, 0), (0, 1, 0, 0), (0, 0, 1, 0), (0, 0, 0, 1)),
            # Far points do not stay far, though the last three rows are as they should be.
            ((1, 1, 0, 0),) + PLAIN[1:], ((1, 0, 0, 5),) + PLAIN[1:],
            # Rows of the right length that are not at right angles, and the other way round.
            ((5, 0, 0, 0), (0, 3, 4, 0), (0, 4, 3, 0), (0, 0, 0, 5)),
            ((5, 0, 0, 0), (0, 3, 4, 0), (0, 0, 0, 5), (0, 5, 0, 0)),
            ((5, 0, 0, 0), (0, 5, 0, 0), (0, 0, 3, 4), (0, 0, 4, 3)),
            ((1, 0, 0, 0), (0, 1, 1, 0), (0, 1, -1, 0), (0, 0, 0, 1)),
            ((2, 0, 0, 0), (0, 3, -4, 0), (0, 4, 3, 0), (0, 0, 0, 5)),
        ]
        for table in others:
            self.assertIs(is_table(table), True)
            self.assertIs(is_rigid(table), False)

    def test_by_the_gaps(self):
        # By chance: rigid exactly if far points stay far and the gaps of some points stay.
        tried = [point for point in POINTS if point[0]]
        for table in TABLES:
            far = all(led(table, point)[0] == 0 for point in POINTS if point[0] == 0)
            stays = far and all(
                point_gap(led(table, point), led(table, other)) == point_gap(point, other)
                for point in tried[::2] for other in tried[::3]
            )
            self.assertIs(is_rigid(table), stays)


def fives():
    """Lots of five points, no four in one plane: of small and of great numbers."""
    chance = random.Random(35)
    told = [FIVE, FIVE[::-1], tuple((1, at, at * at, at ** 3) for at in range(5))]
    told.append(((1, HUGE, 0, 0), (HUGE, 1, 3, 0), (0, 1, HUGE, 2), (1, 2, 3, HUGE), (5, HUGE, 7, HUGE + 1)))
    while len(told) < 14:
        five = tuple(chance.choice(POINTS) for _ in range(5))
        if all(determinant([five[at] for at in range(5) if at != left]) for left in range(5)):
            told.append(five)
    return told


FIVES = fives()


class FiveToFive(unittest.TestCase):
    def test_each_to_each(self):
        for points in FIVES:
            for others in FIVES:
                table = five_to_five(points, others)
                self.assertIs(is_table(table), True)
                self.assertEqual([led(table, point) for point in points], list(others))
                self.assertEqual(back_table(table), five_to_five(others, points))

    def test_it_is_the_table(self):
        for table in TABLES:
            for points in FIVES[:6]:
                self.assertEqual(five_to_five(points, tuple(led(table, point) for point in points)), table)

    def test_orders(self):
        for order in list(permutations(range(5)))[::11]:
            points = tuple(FIVE[at] for at in order)
            others = tuple(FIVES[4][at] for at in order)
            self.assertEqual(five_to_five(points, others), five_to_five(FIVE, FIVES[4]))


def expected_index(value):
    """What InvalidPoints tells, word by word; "right" if it tells nothing."""
    if not isinstance(value, tuple) or len(value) != 5:
        return None
    for at, point in enumerate(value):
        if not (point.__class__ is tuple and is_point(point)):
            return at
        ahead = value[:at]
        if point in ahead:
            return at
        if any(in_line(a, b, point) for k, a in enumerate(ahead) for b in ahead[:k]):
            return at
        threes = [(a, b, c) for k, a in enumerate(ahead) for n, b in enumerate(ahead[:k]) for c in ahead[:n]]
        if any(determinant([*three, point]) == 0 for three in threes):
            return at
    return "right"


def wrong_fives():
    others = [list(FIVE), FIVE[:4], FIVE + ((1, 2, 3, 4),), (), "12345", PLAIN, FIVE[0]]
    told = [(value, None) for value in ANYTHING + others if not (value.__class__ is tuple and len(value) == 5)]
    for at in range(5):
        for value in NO_FOURS[at::7] + [None, [1, 0, 0, 0], (2, 0, 0, 0), (1, 0, 0, 0, 0, 0)]:
            told.append((FIVE[:at] + (value,) + FIVE[at + 1:], at))
        # Two wrong elements: the first one is told.
        told.append((FIVE[:at] + (None,) * (5 - at), at))
        for front in range(at):
            told.append((FIVE[:at] + (FIVE[front],) + FIVE[at + 1:], at))
            told.append((FIVE[:at] + (FIVE[front],) + (None,) * (4 - at), at))
    for at in range(2, 5):
        for a in range(at):
            for b in range(a):
                line = reduced([2 * x - 3 * y for x, y in zip(FIVE[a], FIVE[b])])
                told.append((FIVE[:at] + (line,) + FIVE[at + 1:], at))
    for at in range(3, 5):
        for left in range(at):
            three = [FIVE[k] for k in range(at) if k != left][:3]
            if len(three) == 3:
                flat = reduced([x - 2 * y + 5 * z for x, y, z in zip(*three)])
                told.append((FIVE[:at] + (flat,) + FIVE[at + 1:], at))
        flat = reduced([x + y + z for x, y, z in zip(*FIVE[:3])])
        told.append((FIVE[:at] + (flat,) + FIVE[at + 1:], at))
    return told


WRONG_FIVES = wrong_fives()
FIVE_POINTS = (InvalidPoints, "index", WRONG_FIVES)

CALLS = [
    (point_by, [("table", TABLE, TURN), ("point", POINT, (1, 2, 3, 4))]),
    (plane_by, [("table", TABLE, TURN), ("plane", PLANE, (1, 2, 3, 4))]),
    (rod_by, [("table", TABLE, TURN), ("rod", ROD, UP)]),
    (screw_by, [("table", TABLE, TURN), ("screw", SCREW, AUGER)]),
    (followed, [("table", TABLE, TURN), ("other", TABLE, SHIFT)]),
    (back_table, [("table", TABLE, TURN)]),
    (keeps_hands, [("table", TABLE, TURN)]),
    (is_rigid, [("table", TABLE, TURN)]),
    (five_to_five, [("points", FIVE_POINTS, FIVE), ("others", FIVE_POINTS, FIVES[4])]),
]


class Errors(ErrorChecks, unittest.TestCase):
    def test_by_name(self):
        self.check_by_name(CALLS)

    def test_each_parameter(self):
        self.check_each_parameter(CALLS)

    def test_the_first_of_two_wrong_ones(self):
        self.check_first_of_two(CALLS)

    def test_each_reason_at_each_index(self):
        for value, index in WRONG_FIVES:
            if value.__class__ is tuple and len(value) == 5:
                self.assertEqual(expected_index(value), index)
        self.assertEqual({index for _, index in WRONG_FIVES}, {None, 0, 1, 2, 3, 4})

    def test_lots_of_five_by_chance(self):
        chance = random.Random(36)
        pool = rows_between(0, 1, 4) + [(1, 2, 0, 0), (0, 1, 2, 0)]
        seen = set()
        for _ in range(400):
            five = tuple(chance.choice(pool) for _ in range(5))
            index = expected_index(five)
            seen.add(index)
            if index == "right":
                self.assertIs(is_table(five_to_five(five, FIVE)), True)
            else:
                self.check_raised(five_to_five, {"points": five, "others": FIVE}, InvalidPoints, "index", index)
        self.assertEqual(seen, {1, 2, 3, 4, "right"})

    def test_the_first_argument_first(self):
        late, early = FIVE[:4] + (None,), (None,) + FIVE[1:]
        self.check_raised(five_to_five, {"points": late, "others": early}, InvalidPoints, "index", 4)
        self.check_raised(five_to_five, {"points": early, "others": late}, InvalidPoints, "index", 0)
        self.check_raised(five_to_five, {"points": FIVE, "others": late}, InvalidPoints, "index", 4)
        self.check_raised(five_to_five, {"points": late, "others": None}, InvalidPoints, "index", 4)
        self.check_raised(five_to_five, {"points": [], "others": early}, InvalidPoints, "index", None)

    def test_defined_in_their_file(self):
        self.check_defined(tables, [call.__name__ for call, _ in CALLS] + ["is_table"])


if __name__ == "__main__":
    unittest.main()
