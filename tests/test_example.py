"""The interface's example, row by row, and that of README.md."""

import doctest
import os
import unittest

from stringrods.rods import (
    do_meet, hand, in_plane, is_rod, meeting_plane, meeting_point, on_rod, plane_with, point_in, product,
)
from stringrods.spaces import cut, is_point, join, lies_in

README = os.path.join(os.path.dirname(os.path.dirname(os.path.abspath(__file__))), "README.md")


class Example(unittest.TestCase):
    across, along, upright = (1, 0, 0, 0, 0, 0), (0, 1, 0, 0, 0, 0), (0, 0, 1, 0, 0, 0)
    high = (0, 1, 0, -1, 0, 0)
    mast = (0, 0, 1, 1, -1, 0)

    def test_joins_and_cuts(self):
        told = [
            join((1, 0, 0, 0), (1, 2, 0, 0)) == self.across, join((1, 0, 0, 1), (1, 0, 1, 1)),
            cut((0, 0, 1, 0), (0, 0, 0, 1)), join((0, 1, 0, 0), (0, 0, 1, 0)),
        ]
        self.assertEqual(told, [True, (0, 1, 0, -1, 0, 0), (1, 0, 0, 0, 0, 0), (0, 0, 0, 0, 0, 1)])

    def test_products_and_meetings(self):
        across, along, high = self.across, self.along, self.high
        told = [
            product(across, high), product(along, high), do_meet(across, along), meeting_point(across, along),
            meeting_plane(across, along), meeting_point(along, high), is_rod((1, 0, 0, 1, 0, 0)),
        ]
        self.assertEqual(told, [-1, 0, True, (1, 0, 0, 0), (0, 0, 0, 1), (0, 0, 1, 0), False])

    def test_points_and_planes(self):
        told = [
            plane_with(self.across, (1, 0, 0, 1)), point_in(self.high, (0, 0, 1, 0)),
            on_rod((1, 0, 5, 1), self.high), in_plane(self.high, (1, 0, 0, -1)),
            lies_in((0, 1, 0, 0), (1, 0, 0, 0)),
        ]
        self.assertEqual(told, [(0, 0, 1, 0), (1, 0, 0, 1), True, True, True])

    def test_hands(self):
        across, high, mast = self.across, self.high, self.mast
        told = [product(across, mast), product(high, mast), hand(across, high, mast), hand(mast, across, high)]
        self.assertEqual(told, [1, -1, 1, 1])

    def test_the_name_that_no_row_uses(self):
        self.assertIs(is_point((1, 0, 0, 0)), True)
        self.assertIs(is_rod(self.upright), True)

    def test_readme(self):
        failed, tried = doctest.testfile(README, module_relative=False)
        self.assertEqual(failed, 0)
        self.assertGreater(tried, 5)


if __name__ == "__main__":
    unittest.main()
