"""Points 7 and 8, and the interface of stringrods/rods.py."""

import unittest
from itertools import permutations

from samples import HUGE, NO_FOURS, NO_RODS, crossed_sum, determinant, is_reduced, rows_between
from stringrods import rods
from stringrods.errors import (
    Apart, InvalidPlane, InvalidPoint, InvalidRod, Meeting, NotJustOne, RodError, Same,
)
from stringrods.rods import (
    do_meet, hand, in_plane, is_rod, meeting_plane, meeting_point, on_rod, plane_with, point_in, product,
)
from stringrods.spaces import cut, is_plane, is_point, join, lies_in

ACROSS, ALONG, UPRIGHT = (1, 0, 0, 0, 0, 0), (0, 1, 0, 0, 0, 0), (0, 0, 1, 0, 0, 0)
HIGH, MAST = (0, 1, 0, -1, 0, 0), (0, 0, 1, 1, -1, 0)
FAR_X, FAR_Y, FAR_Z = (0, 0, 0, 1, 0, 0), (0, 0, 0, 0, 1, 0), (0, 0, 0, 0, 0, 1)
POINT, PLANE = (1, 2, 3, 4), (4, 3, 2, 1)
FAR_PLANE = (1, 0, 0, 0)
SMALL = rows_between(-1, 1, 4)
LARGE = (1, -1, 0, 0, 0, -HUGE)


def told_rods():
    """Pairs of a rod and two points through which it goes, each rod once."""
    found = {}
    for point in SMALL[::2] + [(1, 2, 3, 4), (2, 1, -3, 0), (3, 5, 7, 2)]:
        for other in SMALL[1::3] + [(0, 2, 3, 5), (2, 5, 1, 1)]:
            if point != other:
                found.setdefault(join(point, other), (point, other))
    return list(found.items())


TOLD = told_rods()
SOME = TOLD[::9] + [(FAR_Z, ((0, 1, 0, 0), (0, 0, 1, 0))), (ACROSS, ((1, 0, 0, 0), (0, 1, 0, 0)))]


class WhatIsARod(unittest.TestCase):
    def test_rods(self):
        for rod in [ACROSS, ALONG, UPRIGHT, HIGH, MAST, FAR_X, FAR_Y, FAR_Z, LARGE]:
            self.assertIs(is_rod(rod), True)
        for rod in [(1, 2, 3, 3, 0, -1), (0, 0, 0, 2, -3, 5), (2, 0, 0, 0, 3, 0), (HUGE, 1, 0, -1, HUGE, 0)]:
            self.assertIs(is_rod(rod), True)

    def test_no_rods(self):
        for value in NO_RODS:
            self.assertIs(is_rod(value), False)

    def test_every_small_row(self):
        for row in [row for row in rows_between(-1, 1, 6)]:
            total = row[0] * row[3] + row[1] * row[4] + row[2] * row[5]
            self.assertIs(is_rod(row), total == 0)
            self.assertIs(is_rod(tuple(-number for number in row)), False)
            self.assertIs(is_rod(tuple(2 * number for number in row)), False)
            self.assertIs(is_rod(list(row)), False)

    def test_points_of_far_rods_are_far(self):
        for rod, (point, other) in TOLD:
            self.assertIs(is_rod(rod), True)
            self.assertIs(is_reduced(rod), True)
            self.assertEqual(rod[:3] == (0, 0, 0), point[0] == 0 and other[0] == 0)

    def test_by_name(self):
        self.assertIs(is_rod(value=HIGH), True)
        self.assertIs(is_rod(value=list(HIGH)), False)


class Product(unittest.TestCase):
    def test_by_hand(self):
        self.assertEqual(product(ACROSS, HIGH), -1)
        self.assertEqual(product(ALONG, HIGH), 0)
        self.assertEqual(product(ACROSS, MAST), 1)
        self.assertEqual(product(HIGH, MAST), -1)
        self.assertEqual(product(ACROSS, FAR_X), 1)
        # 1 * 1 + 2 * 5 + 3 * 0 + 3 * 5 + 0 * (-1) + (-1) * 7
        self.assertEqual(product((1, 2, 3, 3, 0, -1), (5, -1, 7, 1, 5, 0)), 19)

    def test_number_by_number_and_in_both_orders(self):
        for rod, _ in SOME:
            for other, _ in TOLD:
                self.assertEqual(product(rod, other), crossed_sum(rod, other))
                self.assertEqual(product(other, rod), crossed_sum(rod, other))

    def test_numbers_of_400_figures(self):
        self.assertEqual(product(LARGE, (0, 0, 1, 0, 0, 0)), -HUGE)
        self.assertEqual(product(LARGE, (HUGE, 0, 1, 0, HUGE, 0)), -2 * HUGE)

    def test_with_itself_it_is_nought(self):
        for rod, _ in TOLD + [(LARGE, None)]:
            self.assertEqual(product(rod, rod), 0)

    def test_a_plain_whole_number(self):
        self.assertIs(product(ACROSS, HIGH).__class__, int)
        self.assertIs(product(ACROSS, ACROSS).__class__, int)

    def test_by_name(self):
        self.assertEqual(product(rod=ACROSS, other=HIGH), -1)
        self.assertEqual(product(other=HIGH, rod=ACROSS), -1)
        self.assertEqual(product(ACROSS, other=HIGH), -1)


class DoMeet(unittest.TestCase):
    def test_exactly_if_their_points_lie_in_one_plane(self):
        for rod, ends in SOME:
            for other, tips in TOLD:
                one_plane = determinant([*ends, *tips]) == 0
                self.assertIs(do_meet(rod, other), one_plane)
                self.assertIs(do_meet(other, rod), one_plane)

    def test_a_rod_meets_itself(self):
        for rod, _ in TOLD + [(LARGE, None)]:
            self.assertIs(do_meet(rod, rod), True)

    def test_far_rods(self):
        self.assertIs(do_meet(FAR_X, FAR_Y), True)
        self.assertIs(do_meet(FAR_X, ALONG), True)
        self.assertIs(do_meet(FAR_X, ACROSS), False)
        # Two rods of one direction meet in a far point.
        self.assertIs(do_meet(ACROSS, (1, 0, 0, 0, 0, -2)), True)

    def test_by_name(self):
        self.assertIs(do_meet(rod=ACROSS, other=ALONG), True)
        self.assertIs(do_meet(other=HIGH, rod=ACROSS), False)


class OnRod(unittest.TestCase):
    def test_far_and_other_ones(self):
        self.assertIs(on_rod((1, 0, 5, 1), HIGH), True)
        self.assertIs(on_rod((1, 0, 5, 2), HIGH), False)
        self.assertIs(on_rod((0, 0, 1, 0), HIGH), True)
        self.assertIs(on_rod((0, 1, 1, 0), HIGH), False)
        self.assertIs(on_rod((0, 1, -1, 0), FAR_Z), True)
        self.assertIs(on_rod((0, 1, -1, 1), FAR_Z), False)
        self.assertIs(on_rod((1, 0, 0, 0), FAR_Z), False)

    def test_points_of_two_ends(self):
        for rod, (point, other) in TOLD:
            self.assertIs(on_rod(point, rod), True)
            self.assertIs(on_rod(other, rod), True)

    def test_numbers_of_400_figures(self):
        self.assertIs(on_rod((1, HUGE, 0, 0), LARGE), True)
        self.assertIs(on_rod((1, HUGE, 1, 0), LARGE), False)

    def test_by_name(self):
        self.assertIs(on_rod(point=(1, 0, 5, 1), rod=HIGH), True)
        self.assertIs(on_rod(rod=HIGH, point=(1, 0, 5, 2)), False)


class InPlane(unittest.TestCase):
    def test_exactly_if_both_ends_lie_in_it(self):
        for rod, (point, other) in SOME:
            for plane in SMALL:
                both = lies_in(point, plane) and lies_in(other, plane)
                self.assertIs(in_plane(rod, plane), both)

    def test_far_ones(self):
        for rod, _ in TOLD:
            self.assertIs(in_plane(rod, FAR_PLANE), rod[:3] == (0, 0, 0))
        self.assertIs(in_plane(FAR_Z, (5, 0, 0, 1)), True)
        self.assertIs(in_plane(FAR_Z, (5, 0, 1, 0)), False)

    def test_by_name(self):
        self.assertIs(in_plane(rod=HIGH, plane=(1, 0, 0, -1)), True)
        self.assertIs(in_plane(plane=(1, 0, 0, 1), rod=HIGH), False)


class PlaneWith(unittest.TestCase):
    def test_all_three_lie_in_it_or_the_point_is_on_the_rod(self):
        for rod, (first, second) in SOME:
            for point in SMALL + [POINT, (2, 3, 5, 7)]:
                if on_rod(point, rod):
                    with self.assertRaises(NotJustOne):
                        plane_with(rod, point)
                    continue
                plane = plane_with(rod, point)
                self.assertIs(is_plane(plane), True)
                for each in (first, second, point):
                    self.assertIs(lies_in(each, plane), True)

    def test_by_hand(self):
        self.assertEqual(plane_with(ACROSS, (1, 0, 0, 1)), (0, 0, 1, 0))
        self.assertEqual(plane_with(ACROSS, (1, 7, 3, 1)), (0, 0, 1, -3))
        self.assertEqual(plane_with(HIGH, (2, 4, 5, 2)), (1, 0, 0, -1))
        self.assertEqual(plane_with(HIGH, (1, 0, 0, 0)), (0, 1, 0, 0))

    def test_far_ones(self):
        self.assertEqual(plane_with(FAR_Z, (1, 4, 5, 6)), (6, 0, 0, -1))
        self.assertEqual(plane_with(FAR_Z, (0, 0, 0, 1)), FAR_PLANE)
        self.assertEqual(plane_with(HIGH, (0, 1, 0, 0)), (1, 0, 0, -1))
        for rod, point in [(FAR_Z, (0, 1, 1, 0)), (HIGH, (0, 0, 1, 0))]:
            with self.assertRaises(NotJustOne):
                plane_with(rod, point)

    def test_by_name(self):
        self.assertEqual(plane_with(rod=ACROSS, point=(1, 0, 0, 1)), (0, 0, 1, 0))
        self.assertEqual(plane_with(point=(1, 0, 0, 1), rod=ACROSS), (0, 0, 1, 0))


class PointIn(unittest.TestCase):
    def test_it_is_on_both_or_the_rod_lies_in_the_plane(self):
        for rod, _ in SOME:
            for plane in SMALL + [PLANE, (2, 3, 5, 7)]:
                if in_plane(rod, plane):
                    with self.assertRaises(NotJustOne):
                        point_in(rod, plane)
                    continue
                point = point_in(rod, plane)
                self.assertIs(is_point(point), True)
                self.assertIs(on_rod(point, rod), True)
                self.assertIs(lies_in(point, plane), True)

    def test_by_hand(self):
        self.assertEqual(point_in(HIGH, (0, 0, 1, 0)), (1, 0, 0, 1))
        # y = 3 / 2 on the rod that goes along y at x = 0, z = 1
        self.assertEqual(point_in(HIGH, (3, 0, -2, 0)), (2, 0, 3, 2))
        # x + y + z = 6 on the rod through (1, 0, 0) along (0, 1, 1)
        self.assertEqual(point_in((0, 1, 1, 0, -1, 1), (6, -1, -1, -1)), (2, 2, 5, 5))

    def test_far_ones(self):
        self.assertEqual(point_in(HIGH, FAR_PLANE), (0, 0, 1, 0))
        self.assertEqual(point_in(HIGH, (1, 1, 0, 0)), (0, 0, 1, 0))
        self.assertEqual(point_in(FAR_Z, (7, 1, 1, 0)), (0, 1, -1, 0))
        for rod, plane in [(FAR_Z, FAR_PLANE), (FAR_Z, (5, 0, 0, 1)), (HIGH, (1, 0, 0, -1))]:
            with self.assertRaises(NotJustOne):
                point_in(rod, plane)

    def test_by_name(self):
        self.assertEqual(point_in(rod=HIGH, plane=(0, 0, 1, 0)), (1, 0, 0, 1))
        self.assertEqual(point_in(plane=(0, 0, 1, 0), rod=HIGH), (1, 0, 0, 1))


class MeetingPointAndPlane(unittest.TestCase):
    def check_pair(self, rod, other):
        point, plane = meeting_point(rod, other), meeting_plane(rod, other)
        self.assertIs(is_point(point), True)
        self.assertIs(is_plane(plane), True)
        for each in (rod, other):
            self.assertIs(on_rod(point, each), True)
            self.assertIs(in_plane(each, plane), True)
        self.assertEqual(meeting_point(other, rod), point)
        self.assertEqual(meeting_plane(other, rod), plane)

    def test_each_two(self):
        for rod, _ in SOME:
            for other, _ in TOLD:
                if rod == other:
                    expected = Same
                elif crossed_sum(rod, other) != 0:
                    expected = Apart
                else:
                    self.check_pair(rod, other)
                    continue
                for call in (meeting_point, meeting_plane):
                    for pair in ((rod, other), (other, rod)):
                        with self.assertRaises(expected):
                            call(*pair)

    def test_by_hand(self):
        self.assertEqual(meeting_point(ACROSS, ALONG), (1, 0, 0, 0))
        self.assertEqual(meeting_plane(ACROSS, ALONG), (0, 0, 0, 1))
        self.assertEqual(meeting_point(ALONG, HIGH), (0, 0, 1, 0))
        self.assertEqual(meeting_plane(ALONG, HIGH), (0, 1, 0, 0))
        rod, other = join((1, 1, 2, 3), (1, 4, 5, 7)), join((1, 1, 2, 3), (0, 2, 0, 5))
        self.assertEqual(meeting_point(rod, other), (1, 1, 2, 3))
        # n = (3, 3, 4) x (2, 0, 5) = (15, -7, -6)
        self.assertEqual(meeting_plane(rod, other), (17, 15, -7, -6))

    def test_far_ones(self):
        self.assertEqual(meeting_point(FAR_X, FAR_Y), (0, 0, 0, 1))
        self.assertEqual(meeting_plane(FAR_X, FAR_Y), FAR_PLANE)
        self.assertEqual(meeting_point(FAR_X, HIGH), (0, 0, 1, 0))
        self.assertEqual(meeting_plane(FAR_X, HIGH), (0, 1, 0, 0))
        self.assertEqual(meeting_point((1, 0, 0, 0, 0, -2), ACROSS), (0, 1, 0, 0))
        self.assertEqual(meeting_plane((1, 0, 0, 0, 0, -2), ACROSS), (0, 0, 0, 1))

    def test_all_pencils(self):
        # Rods through one corner of space, or in one plane of it, with each other.
        ends = [(1, 0, 0, 0), (0, 1, 0, 0), (0, 0, 1, 0), (0, 0, 0, 1)]
        for start in ends:
            others = [row for row in SMALL if row != start]
            for point in others[::5]:
                for other in others[1::5]:
                    for make in (join, cut):
                        rod, second = make(start, point), make(start, other)
                        if rod != second:
                            self.check_pair(rod, second)
                            told = meeting_point if make == join else meeting_plane
                            self.assertEqual(told(rod, second), start)

    def test_numbers_of_400_figures(self):
        self.assertEqual(meeting_point(LARGE, ACROSS), (1, HUGE, 0, 0))
        self.assertEqual(meeting_plane(LARGE, ACROSS), (0, 0, 0, 1))
        self.assertEqual(meeting_point(LARGE, (0, 0, 1, HUGE, 0, 0)), (1, 0, HUGE, 0))

    def test_by_name(self):
        self.assertEqual(meeting_point(rod=ACROSS, other=ALONG), (1, 0, 0, 0))
        self.assertEqual(meeting_point(other=ALONG, rod=ACROSS), (1, 0, 0, 0))
        self.assertEqual(meeting_plane(rod=ACROSS, other=ALONG), (0, 0, 0, 1))
        self.assertEqual(meeting_plane(other=ALONG, rod=ACROSS), (0, 0, 0, 1))


class Hand(unittest.TestCase):
    def test_by_hand(self):
        self.assertEqual(hand(ACROSS, HIGH, MAST), 1)
        self.assertEqual(hand(MAST, ACROSS, HIGH), 1)
        # The same three in the mirror z to -z.
        self.assertEqual(hand(ACROSS, (0, 1, 0, 1, 0, 0), (0, 0, 1, -1, 1, 0)), -1)

    def test_in_each_order_and_in_the_mirror(self):
        picked = [rod for rod, _ in TOLD[::23]]
        hands = []
        for at, rod in enumerate(picked):
            for to, other in enumerate(picked[:at]):
                for third in picked[:to]:
                    parts = (crossed_sum(rod, other), crossed_sum(rod, third), crossed_sum(other, third))
                    number = parts[0] * parts[1] * parts[2]
                    if number == 0:
                        for order in permutations((rod, other, third)):
                            with self.assertRaises(Meeting):
                                hand(*order)
                        continue
                    expected = 1 if number > 0 else -1
                    hands.append(expected)
                    for order in permutations((rod, other, third)):
                        self.assertEqual(hand(*order), expected)
                    mirrored = [mirror(each) for each in (rod, other, third)]
                    self.assertEqual(hand(*mirrored), -expected)
        self.assertGreater(hands.count(1), 30)
        self.assertGreater(hands.count(-1), 30)

    def test_far_rods(self):
        # The products are 1, 1 and 1 * 2 + 1 * (-1) = 1; in the mirror the last one is -1.
        self.assertEqual(hand(FAR_X, (1, 0, 1, 0, -1, 0), (1, 0, 2, 2, 0, -1)), 1)
        self.assertEqual(hand((1, 0, -1, 0, 1, 0), (1, 0, -2, -2, 0, -1), FAR_X), -1)
        with self.assertRaises(Meeting):
            hand(FAR_X, FAR_Y, (1, 1, 1, 0, 0, 0))

    def test_meeting(self):
        for three in [(ACROSS, ACROSS, HIGH), (ACROSS, HIGH, ACROSS), (HIGH, ACROSS, ACROSS),
                      (ACROSS, ALONG, MAST), (ACROSS, MAST, ALONG), (MAST, ACROSS, ALONG),
                      (ACROSS, ALONG, UPRIGHT), (ACROSS, ACROSS, ACROSS)]:
            with self.assertRaises(Meeting):
                hand(*three)

    def test_numbers_of_400_figures(self):
        # The products are -HUGE, -1 and 1, and with the other third rod -HUGE, 1 and 1.
        self.assertEqual(hand(LARGE, UPRIGHT, (0, 1, 0, -1, 0, 1)), 1)
        self.assertEqual(hand(LARGE, UPRIGHT, (0, 1, 0, 1, 0, 1)), -1)

    def test_by_name(self):
        self.assertEqual(hand(rod=ACROSS, other=HIGH, third=MAST), 1)
        self.assertEqual(hand(third=MAST, other=HIGH, rod=ACROSS), 1)
        self.assertEqual(hand(ACROSS, HIGH, third=MAST), 1)


def mirror(rod):
    """The rod as seen in the mirror z to -z, reduced."""
    row = (rod[0], rod[1], -rod[2], -rod[3], -rod[4], rod[5])
    front = [number for number in row if number != 0][0]
    return row if front > 0 else tuple(-number for number in row)


# Each function with good arguments, and the kind of each parameter.
CALLS = [
    (product, {"rod": ACROSS, "other": HIGH}),
    (do_meet, {"rod": ACROSS, "other": HIGH}),
    (on_rod, {"point": POINT, "rod": HIGH}),
    (in_plane, {"rod": HIGH, "plane": PLANE}),
    (plane_with, {"rod": HIGH, "point": POINT}),
    (point_in, {"rod": HIGH, "plane": PLANE}),
    (meeting_point, {"rod": ACROSS, "other": ALONG}),
    (meeting_plane, {"rod": ACROSS, "other": ALONG}),
    (hand, {"rod": ACROSS, "other": HIGH, "third": MAST}),
]
SORTS = {
    "rod": (InvalidRod, NO_RODS), "other": (InvalidRod, NO_RODS), "third": (InvalidRod, NO_RODS),
    "point": (InvalidPoint, NO_FOURS), "plane": (InvalidPlane, NO_FOURS),
}


class Errors(unittest.TestCase):
    def check_error(self, call, arguments, expected, value):
        for positional in (True, False):
            with self.assertRaises(RodError) as caught:
                if positional:
                    call(*arguments.values())
                else:
                    call(**dict(reversed(arguments.items())))
            self.assertIs(caught.exception.__class__, expected)
            self.assertIs(caught.exception.given, value)

    def test_each_parameter(self):
        for call, good in CALLS:
            call(**good)
            for name in good:
                expected, values = SORTS[name]
                for value in values:
                    self.check_error(call, {**good, name: value}, expected, value)

    def test_the_first_of_two_wrong_ones(self):
        first, second = [1, 0, 0, 0], (2, 0, 0, 0)
        for call, good in CALLS:
            names = list(good)
            for at, name in enumerate(names):
                for later in names[at + 1:]:
                    wrong = {**good, name: first, later: second}
                    self.check_error(call, wrong, SORTS[name][0], first)
                    wrong = {**good, name: second, later: first}
                    self.check_error(call, wrong, SORTS[name][0], second)

    def test_a_point_is_no_rod_and_a_rod_is_no_point(self):
        self.check_error(on_rod, {"point": HIGH, "rod": POINT}, InvalidPoint, HIGH)
        self.check_error(plane_with, {"rod": POINT, "point": HIGH}, InvalidRod, POINT)
        self.check_error(plane_with, {"rod": HIGH, "point": ACROSS}, InvalidPoint, ACROSS)

    def test_wrong_arguments_ahead_of_what_is_told_last(self):
        wrong = (1, 0, 0, 1, 0, 0)
        for call in (meeting_point, meeting_plane):
            self.check_error(call, {"rod": wrong, "other": wrong}, InvalidRod, wrong)
            self.check_error(call, {"rod": ACROSS, "other": wrong}, InvalidRod, wrong)
        for three in [(ACROSS, ACROSS, wrong), (ACROSS, ALONG, wrong), (ACROSS, wrong, ACROSS)]:
            self.check_error(hand, dict(zip(("rod", "other", "third"), three)), InvalidRod, wrong)

    def test_apart_and_same(self):
        for call in (meeting_point, meeting_plane):
            for pair in [(ACROSS, HIGH), (HIGH, ACROSS), (FAR_X, ACROSS), (ACROSS, FAR_X), (LARGE, UPRIGHT)]:
                with self.assertRaises(Apart):
                    call(*pair)
            for rod in [ACROSS, HIGH, FAR_X, LARGE]:
                with self.assertRaises(Same):
                    call(rod, tuple(list(rod)))
                with self.assertRaises(Same):
                    call(other=rod, rod=rod)

    def test_wrong_lists_stay_as_they_are(self):
        held = [1, 0, 0, 0, 0, 0]
        for call, good in CALLS:
            for name in good:
                self.check_error(call, {**good, name: held}, SORTS[name][0], held)
        self.assertEqual(held, [1, 0, 0, 0, 0, 0])


class Form(unittest.TestCase):
    def test_defined_in_their_file(self):
        self.assertEqual(is_rod.__module__, "stringrods.rods")
        for call, _ in CALLS:
            self.assertEqual(call.__module__, "stringrods.rods")
            self.assertIs(getattr(rods, call.__name__), call)

    def test_equal_calls(self):
        for call, good in CALLS:
            self.assertEqual(call(**good), call(*good.values()))
            self.assertEqual(call(**good), call(**good))

    def test_plain_whole_numbers(self):
        for row in [plane_with(HIGH, POINT), point_in(HIGH, PLANE), meeting_point(ACROSS, ALONG),
                    meeting_plane(ACROSS, ALONG)]:
            self.assertIs(row.__class__, tuple)
            self.assertEqual([number.__class__ for number in row], [int] * 4)

    def test_what_was_returned_may_be_passed(self):
        # From rod to rod the numbers grow, far beyond 400 figures.
        point, plane = (1, HUGE, HUGE + 1, 3), (HUGE, 1, 5, HUGE + 2)
        three = [(2, -1, 1, 3, 4, -2), (1, 3, 2, 2, 2, -4), (5, 1, 7, -3, 1, 2)]
        for _ in range(3):
            for rod in three:
                self.assertIs(is_rod(rod), True)
                second = join(point, point_in(rod, plane))
                third = cut(plane, plane_with(rod, point))
                self.assertIs(do_meet(rod, second), True)
                self.assertIs(do_meet(rod, third), True)
                self.assertEqual(meeting_point(rod, second), point_in(rod, plane))
                self.assertEqual(meeting_plane(rod, third), plane_with(rod, point))
                point, plane = point_in(third, (3, 1, 4, 1)), plane_with(second, (2, 7, 1, 8))
                self.assertIs(is_point(point), True)
                self.assertIs(is_plane(plane), True)
        self.assertGreater(abs(max(point + plane, key=abs)), 10 ** 3000)


if __name__ == "__main__":
    unittest.main()
