"""Point 6, the first half of point 7, and the interface of stringrods/spaces.py."""

import unittest

from samples import HUGE, NO_FOURS, is_reduced, in_line, rows_between
from stringrods import spaces
from stringrods.errors import InvalidPlane, InvalidPoint, RodError, Same
from stringrods.rods import is_rod, on_rod
from stringrods.spaces import cut, is_plane, is_point, join, lies_in

FOURS = [
    (1, 0, 0, 0), (1, 2, 3, 4), (1, -2, 0, 7), (2, 3, 0, 0), (2, 4, 6, 9), (6, 10, 15, 0), (3, -6, 9, 1),
    (0, 1, 0, 0), (0, 0, 1, 0), (0, 0, 0, 1), (0, 2, -3, 0), (0, 0, 5, -7), (0, 1, -1, -1),
    (HUGE, 1, 0, 0), (1, HUGE, -HUGE, HUGE), (0, 0, 1, -HUGE), (HUGE, HUGE + 1, 0, 0),
]
GOOD = (1, 2, 3, 4)
SMALL = rows_between(-1, 1, 4)


class WhatIsOne(unittest.TestCase):
    def test_points_and_planes(self):
        for row in FOURS + SMALL:
            self.assertIs(is_point(row), True, row)
            self.assertIs(is_plane(row), True, row)

    def test_neither(self):
        for value in NO_FOURS:
            self.assertIs(is_point(value), False)
            self.assertIs(is_plane(value), False)

    def test_every_small_row(self):
        for first in range(-2, 3):
            for second in range(-2, 3):
                for third in range(-2, 3):
                    row = (0, first, second, third)
                    right = any(row) and is_reduced(row)
                    self.assertIs(is_point(row), right)
                    self.assertIs(is_plane(row), right)

    def test_by_name(self):
        self.assertIs(is_point(value=GOOD), True)
        self.assertIs(is_plane(value=GOOD), True)
        self.assertIs(is_point(value=[1, 2, 3, 4]), False)
        self.assertIs(is_plane(value=None), False)

    def test_a_list_stays_as_it_is(self):
        held = [1, 0, 0, 0]
        self.assertIs(is_point(held), False)
        self.assertEqual(held, [1, 0, 0, 0])


class LiesIn(unittest.TestCase):
    def test_by_the_sum(self):
        for point in SMALL + FOURS:
            for plane in SMALL + FOURS:
                total = sum(left * right for left, right in zip(point, plane))
                self.assertIs(lies_in(point, plane), total == 0)

    def test_far_plane_has_just_the_far_points(self):
        for point in SMALL + FOURS:
            self.assertIs(lies_in(point, (1, 0, 0, 0)), point[0] == 0)

    def test_by_hand(self):
        self.assertIs(lies_in((1, 2, 3, 4), (4, 0, 0, -1)), True)
        self.assertIs(lies_in((1, 2, 3, 4), (4, 0, 0, 1)), False)
        self.assertIs(lies_in((2, 1, 0, 0), (1, -2, 0, 0)), True)

    def test_by_name(self):
        self.assertIs(lies_in(point=(1, 1, 0, 0), plane=(1, -1, 0, 0)), True)
        self.assertIs(lies_in(plane=(1, -1, 0, 0), point=(1, 1, 0, 0)), True)
        self.assertIs(lies_in((1, 1, 0, 0), plane=(1, 1, 0, 0)), False)

    def test_errors(self):
        for value in NO_FOURS:
            with self.assertRaises(InvalidPoint) as caught:
                lies_in(value, GOOD)
            self.assertIs(caught.exception.given, value)
            with self.assertRaises(InvalidPlane) as caught:
                lies_in(GOOD, value)
            self.assertIs(caught.exception.given, value)

    def test_the_first_error(self):
        wrong, worse = [1, 0, 0, 0], (2, 0, 0, 0)
        with self.assertRaises(InvalidPoint) as caught:
            lies_in(wrong, worse)
        self.assertIs(caught.exception.given, wrong)
        with self.assertRaises(InvalidPoint) as caught:
            lies_in(plane=worse, point=wrong)
        self.assertIs(caught.exception.given, wrong)
        self.assertEqual(wrong, [1, 0, 0, 0])


class Join(unittest.TestCase):
    def test_the_rod_goes_through_just_the_points_in_line(self):
        for point in SMALL[::3]:
            for other in SMALL[1::3]:
                if point == other:
                    continue
                rod = join(point, other)
                self.assertIs(is_rod(rod), True)
                for each in SMALL:
                    self.assertIs(on_rod(each, rod), in_line(point, other, each))

    def test_both_orders(self):
        for point in FOURS:
            for other in FOURS:
                if point != other:
                    self.assertEqual(join(point, other), join(other, point))
                    self.assertIs(is_rod(join(point, other)), True)

    def test_by_hand(self):
        self.assertEqual(join((1, 0, 0, 0), (1, 2, 0, 0)), (1, 0, 0, 0, 0, 0))
        self.assertEqual(join((1, 0, 0, 1), (1, 0, 1, 1)), (0, 1, 0, -1, 0, 0))
        # (1, 2, 3) to (4, 5, 7): d = (3, 3, 4), m = (1, 2, 3) x (4, 5, 7) = (-1, 5, -3).
        self.assertEqual(join((1, 1, 2, 3), (1, 4, 5, 7)), (3, 3, 4, -1, 5, -3))
        # (1/2, 0, 0) to (0, 1/3, 0): d = 2 (0, 1, 0) - 3 (1, 0, 0), m = (0, 0, 1).
        self.assertEqual(join((2, 1, 0, 0), (3, 0, 1, 0)), (3, -2, 0, 0, 0, -1))

    def test_far_points(self):
        self.assertEqual(join((0, 1, 0, 0), (0, 0, 1, 0)), (0, 0, 0, 0, 0, 1))
        self.assertEqual(join((0, 0, 1, 0), (0, 1, 0, 0)), (0, 0, 0, 0, 0, 1))
        self.assertEqual(join((0, 1, 2, 3), (0, 4, 5, 6)), (0, 0, 0, 1, -2, 1))
        self.assertEqual(join((1, 0, 0, 5), (0, 1, 0, 0)), (1, 0, 0, 0, 5, 0))
        self.assertEqual(join((0, 1, 0, 0), (1, 0, 0, 5)), (1, 0, 0, 0, 5, 0))

    def test_numbers_of_400_figures(self):
        rod = join((1, HUGE, 0, 0), (1, 0, HUGE, 0))
        self.assertEqual(rod, (1, -1, 0, 0, 0, -HUGE))
        self.assertIs(on_rod((2, HUGE, HUGE, 0), rod), True)
        self.assertIs(on_rod((2, HUGE, HUGE + 1, 0), rod), False)

    def test_by_name(self):
        self.assertEqual(join(point=(1, 0, 0, 0), other=(1, 2, 0, 0)), (1, 0, 0, 0, 0, 0))
        self.assertEqual(join(other=(1, 2, 0, 0), point=(1, 0, 0, 0)), (1, 0, 0, 0, 0, 0))
        self.assertEqual(join((1, 0, 0, 0), other=(1, 2, 0, 0)), (1, 0, 0, 0, 0, 0))

    def test_errors(self):
        for value in NO_FOURS:
            with self.assertRaises(InvalidPoint) as caught:
                join(value, GOOD)
            self.assertIs(caught.exception.given, value)
            with self.assertRaises(InvalidPoint) as caught:
                join(GOOD, value)
            self.assertIs(caught.exception.given, value)
            # Wrong twice is wrong, and not the same.
            with self.assertRaises(InvalidPoint):
                join(value, value)

    def test_the_first_error(self):
        wrong, worse = [1, 0, 0, 0], (2, 0, 0, 0)
        for call in (lambda: join(wrong, worse), lambda: join(other=worse, point=wrong)):
            with self.assertRaises(InvalidPoint) as caught:
                call()
            self.assertIs(caught.exception.given, wrong)

    def test_same(self):
        for point in FOURS:
            with self.assertRaises(Same):
                join(point, tuple(list(point)))
        with self.assertRaises(Same):
            join(point=(0, 0, 0, 1), other=(0, 0, 0, 1))


class Cut(unittest.TestCase):
    def test_the_rod_has_just_the_points_in_both(self):
        for plane in SMALL[::3]:
            for other in SMALL[1::3]:
                if plane == other:
                    continue
                rod = cut(plane, other)
                self.assertIs(is_rod(rod), True)
                for each in SMALL:
                    self.assertIs(on_rod(each, rod), lies_in(each, plane) and lies_in(each, other))

    def test_both_orders(self):
        for plane in FOURS:
            for other in FOURS:
                if plane != other:
                    self.assertEqual(cut(plane, other), cut(other, plane))
                    self.assertIs(is_rod(cut(plane, other)), True)

    def test_by_hand(self):
        self.assertEqual(cut((0, 0, 1, 0), (0, 0, 0, 1)), (1, 0, 0, 0, 0, 0))
        # x = 1 and y = 2: through (1, 2, 0) along (0, 0, 1).
        self.assertEqual(cut((1, -1, 0, 0), (2, 0, -1, 0)), (0, 0, 1, 2, -1, 0))
        self.assertEqual(cut((1, -1, 0, 0), (2, 0, -1, 0)), join((1, 1, 2, 0), (1, 1, 2, 1)))
        # x + y + z = 6 and x = y: through (2, 2, 2) along (1, 1, -2).
        self.assertEqual(cut((6, -1, -1, -1), (0, 1, -1, 0)), join((1, 2, 2, 2), (0, 1, 1, -2)))

    def test_the_far_plane_and_planes_that_run_side_by_side(self):
        self.assertEqual(cut((1, 0, 0, 0), (0, 0, 0, 1)), (0, 0, 0, 0, 0, 1))
        self.assertEqual(cut((0, 0, 0, 1), (1, 0, 0, 0)), (0, 0, 0, 0, 0, 1))
        self.assertEqual(cut((1, 0, 0, -1), (2, 0, 0, -1)), (0, 0, 0, 0, 0, 1))
        self.assertEqual(cut((1, 0, 0, 0), (1, 2, 3, 4)), (0, 0, 0, 2, 3, 4))

    def test_numbers_of_400_figures(self):
        rod = cut((HUGE, -1, 0, 0), (HUGE, 0, -1, 0))
        self.assertEqual(rod, (0, 0, 1, HUGE, -HUGE, 0))

    def test_by_name(self):
        self.assertEqual(cut(plane=(0, 0, 1, 0), other=(0, 0, 0, 1)), (1, 0, 0, 0, 0, 0))
        self.assertEqual(cut(other=(0, 0, 0, 1), plane=(0, 0, 1, 0)), (1, 0, 0, 0, 0, 0))
        self.assertEqual(cut((0, 0, 1, 0), other=(0, 0, 0, 1)), (1, 0, 0, 0, 0, 0))

    def test_errors(self):
        for value in NO_FOURS:
            with self.assertRaises(InvalidPlane) as caught:
                cut(value, GOOD)
            self.assertIs(caught.exception.given, value)
            with self.assertRaises(InvalidPlane) as caught:
                cut(GOOD, value)
            self.assertIs(caught.exception.given, value)
            with self.assertRaises(InvalidPlane):
                cut(value, value)

    def test_the_first_error(self):
        wrong, worse = None, (0, 0, 0, -1)
        for call in (lambda: cut(worse, wrong), lambda: cut(other=wrong, plane=worse)):
            with self.assertRaises(InvalidPlane) as caught:
                call()
            self.assertIs(caught.exception.given, worse)

    def test_same(self):
        for plane in FOURS:
            with self.assertRaises(Same):
                cut(plane, tuple(list(plane)))
        with self.assertRaises(Same):
            cut(plane=(1, 0, 0, 0), other=(1, 0, 0, 0))


class Form(unittest.TestCase):
    def test_defined_in_their_file(self):
        for name in ["is_point", "is_plane", "lies_in", "join", "cut"]:
            self.assertEqual(getattr(spaces, name).__module__, "stringrods.spaces")

    def test_equal_calls(self):
        for point in FOURS:
            for other in FOURS:
                if point != other:
                    self.assertEqual(join(point, other), join(point, other))
                    self.assertEqual(cut(point, other), cut(point, other))

    def test_plain_whole_numbers(self):
        for rod in [join(FOURS[1], FOURS[2]), cut(FOURS[1], FOURS[2])]:
            self.assertIs(rod.__class__, tuple)
            self.assertEqual([number.__class__ for number in rod], [int] * 6)

    def test_all_errors_are_caught_by_the_base(self):
        for call in (lambda: join(None, None), lambda: cut(None, None), lambda: lies_in(None, None),
                     lambda: join(GOOD, GOOD)):
            with self.assertRaises(RodError):
                call()


if __name__ == "__main__":
    unittest.main()
