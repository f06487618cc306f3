"""Points 9 and 10, and the interface of stringrods/lots.py."""

import random
import unittest
from itertools import permutations

from checks import LOT, ROD, ErrorChecks
from references import form_signs, gram, meeting_rows, noughts, rank_by_fractions, small_rods
from samples import HUGE, SOME_RODS, WRONG_LOTS, crossed_sum
from stringrods import lots
from stringrods.errors import InvalidLot
from stringrods.lots import all_meet, any_meeter, meeters_count, passing_meeter, rank, told_meeters
from stringrods.rings import ring_rod
from stringrods.rods import do_meet, is_rod
from stringrods.spaces import join

ACROSS, ALONG, UPRIGHT = (1, 0, 0, 0, 0, 0), (0, 1, 0, 0, 0, 0), (0, 0, 1, 0, 0, 0)
HIGH, MAST = (0, 1, 0, -1, 0, 0), (0, 0, 1, 1, -1, 0)
FAR_X, FAR_Y, FAR_Z = (0, 0, 0, 1, 0, 0), (0, 0, 0, 0, 1, 0), (0, 0, 0, 0, 0, 1)
THREE = (ACROSS, HIGH, MAST)
FOUR = (UPRIGHT, (1, -1, -1, 0, 1, -1), (2, -3, -1, 0, 2, -6), (3, -2, -1, 0, 3, -6))
TOUCHED = (UPRIGHT, (1, 0, 1, 0, 0, 0), (0, 1, 1, 0, -1, 1), (0, 1, -1, 0, -1, -1))
FREE = (UPRIGHT, (1, 0, 1, -1, 0, 1), (0, 1, 1, 0, -1, 1), (1, 1, 2, -1, -1, 1))
# Three rods of the tower, and the rod x = y, z = 0, that cuts it in two points that are not told.
UNTOLD = ((0, 1, 1, 0, -1, 1), (1, 0, -1, -1, 0, -1), (0, 1, -1, 0, -1, -1), (1, 1, 0, 0, 0, 0))
SCREW = (0, 0, 1, 0, 0, 1)
NET_OF_SCREW = (ACROSS, ALONG, FAR_X, FAR_Y, (1, 0, 1, 1, 0, -1), (0, 1, 1, 0, 1, -1))
PENCIL_POINT = (ACROSS, ALONG, UPRIGHT)
PENCIL_PLANE = (ACROSS, ALONG, FAR_Z)
SMALL = small_rods(1)
SMALLER = SMALL[::3]


def picked_lots():
    """Lots of all ranks, by chance but always the same ones."""
    chance = random.Random(9)
    told = [THREE, FOUR, TOUCHED, FREE, UNTOLD, NET_OF_SCREW, PENCIL_POINT, PENCIL_PLANE, SOME_RODS[:8], (ACROSS,),
            (ACROSS, ACROSS), (ACROSS, ALONG), (ACROSS, HIGH), NET_OF_SCREW[:5], NET_OF_SCREW[:4]]
    for many in range(1, 9):
        told += [tuple(chance.choice(SMALL) for _ in range(many)) for _ in range(25)]
    points = [(1, 0, 0, 0), (1, 2, 3, 5), (0, 1, 2, 3)]
    for start in points:
        ends = [(1, chance.randint(-5, 5), chance.randint(-5, 5), chance.randint(1, 5)) for _ in range(4)]
        pencil = tuple(join(start, end) for end in ends if end != start)
        told += [pencil, pencil + (ACROSS,), pencil[:2] + (HIGH, MAST)]
    for many in range(4, 7):
        told += [net_lot(chance, many) for _ in range(10)]
        told += [meeting_lot(chance, many) for _ in range(10)]
    return told


def net_lot(chance, many):
    """Rods whose product with a screw that is no rod is 0."""
    found = [rod for rod in SMALL if crossed_sum(rod, SCREW) == 0]
    return tuple(chance.choice(found) for _ in range(many))


def meeting_lot(chance, many):
    """Rods that all meet one rod."""
    found = [rod for rod in SMALL if crossed_sum(rod, MAST) == 0]
    return tuple(chance.choice(found) for _ in range(many))


LOTS = picked_lots()


def expected_count(lot):
    """[9], by the signs of a form worked out in another way."""
    rows = meeting_rows(lot)
    above, below, level = form_signs(gram(rows, crossed_sum)) if rows else (0, 0, 0)
    if above and below:
        return 2 if (above, below, level) == (1, 1, 0) else "endless"
    return level if level < 2 else "endless"


def expected_all_meet(lot, rod):
    """[10], word by word."""
    rows = meeting_rows(lot)
    above, below, _ = form_signs(gram(rows, crossed_sum)) if rows else (0, 0, 0)
    if above and below:
        return rank_by_fractions(lot + (rod,)) == rank_by_fractions(lot)
    return all(crossed_sum(row, rod) == 0 for row in level_rows(rows))


def level_rows(rows):
    """A base of the rows of W that have the product 0 with all of it."""
    if not rows:
        return []
    factors = noughts(gram(rows, crossed_sum), len(rows))
    return [tuple(sum(f * row[at] for f, row in zip(each, rows)) for at in range(6)) for each in factors]


class Example(unittest.TestCase):
    def test_three(self):
        told = [rank(THREE), meeters_count(THREE), told_meeters(THREE), rank(PENCIL_POINT),
                meeters_count(PENCIL_POINT), meeters_count((ACROSS,))]
        self.assertEqual(told, [3, "endless", None, 3, "endless", "endless"])

    def test_four(self):
        told = [rank(FOUR), meeters_count(FOUR), told_meeters(FOUR) == (HIGH, ACROSS), all_meet(FOUR, ALONG),
                all_meet(FOUR, MAST), passing_meeter(FOUR, ALONG)]
        self.assertEqual(told, [4, 2, True, True, False, None])

    def test_touched_and_free(self):
        told = [told_meeters(TOUCHED) == (ACROSS,), told_meeters(FREE), any_meeter(FREE), all_meet(FREE, MAST),
                all_meet(TOUCHED, ALONG)]
        self.assertEqual(told, [True, (), None, True, True])


class Rank(unittest.TestCase):
    def test_each_rank(self):
        self.assertEqual(rank((ACROSS,)), 1)
        self.assertEqual(rank((ACROSS,) * 8), 1)
        self.assertEqual(rank((ACROSS, ALONG, (1, 1, 0, 0, 0, 0), (2, -3, 0, 0, 0, 0))), 2)
        self.assertEqual(rank(THREE + (ACROSS,)), 3)
        self.assertEqual(rank(FOUR), 4)
        self.assertEqual(rank(NET_OF_SCREW), 5)
        self.assertEqual(rank((ACROSS, ALONG, UPRIGHT, FAR_X, FAR_Y, FAR_Z)), 6)
        self.assertEqual(rank(SOME_RODS[:8]), 6)

    def test_by_fractions(self):
        seen = set()
        for lot in LOTS:
            self.assertEqual(rank(lot), rank_by_fractions(lot))
            seen.add(rank(lot))
        self.assertEqual(seen, {1, 2, 3, 4, 5, 6})


class Count(unittest.TestCase):
    def test_by_the_signs(self):
        seen = {}
        for lot in LOTS:
            count = meeters_count(lot)
            self.assertEqual(count, expected_count(lot), lot)
            seen.setdefault((rank(lot), count), lot)
        self.assertEqual(
            sorted((many, str(count)) for many, count in seen),
            [(1, "endless"), (2, "endless"), (3, "endless"), (4, "0"), (4, "1"), (4, "2"), (4, "endless"),
             (5, "0"), (5, "1"), (6, "0")],
        )

    def test_by_hand(self):
        self.assertEqual(meeters_count((ACROSS,) * 8), "endless")
        self.assertEqual(meeters_count((ACROSS, ALONG)), "endless")
        self.assertEqual(meeters_count((ACROSS, HIGH)), "endless")
        # All rods through the origin are met by just these, and so are all in one plane.
        self.assertEqual(meeters_count(PENCIL_POINT), "endless")
        self.assertEqual(meeters_count(PENCIL_PLANE), "endless")
        # One rod more, and what is left are the rods through the point in one plane.
        self.assertEqual(meeters_count(PENCIL_POINT + (HIGH,)), "endless")
        self.assertEqual(meeters_count(PENCIL_POINT + (HIGH, (1, 0, 0, 0, 1, 0))), 1)
        self.assertEqual(told_meeters(PENCIL_POINT + (HIGH, (1, 0, 0, 0, 1, 0))), (UPRIGHT,))
        self.assertEqual(meeters_count(PENCIL_POINT + (FAR_X, FAR_Y, FAR_Z)), 0)
        # Of a net that no rod has, no rod meets all.
        self.assertEqual(meeters_count(NET_OF_SCREW), 0)
        self.assertEqual(meeters_count(UNTOLD), 2)
        # Five rods that meet one rod, and hang together no further, are met by it alone.
        self.assertEqual(told_meeters((ACROSS, ALONG, FAR_Y, FAR_X, (0, 1, 1, 0, 0, 0))), (UPRIGHT,))
        self.assertEqual(told_meeters((ACROSS, ALONG, UPRIGHT, FAR_Y, FAR_Z)), (ACROSS,))

    def test_order_repeats_and_rods_of_the_ring(self):
        fourth = ring_rod(*THREE, 2, 3)
        for tail in [(FOUR[0],), (FOUR[1],), (UPRIGHT, ALONG), (FAR_X,), (SMALL[40],), (SMALL[70], SMALL[11])]:
            lot = THREE + tail
            told = (meeters_count(lot), told_meeters(lot))
            others = (lot[::-1], lot + (lot[1],), lot + (fourth,), (fourth,) + lot[1:], lot[2:] + lot[:2] + lot[:1])
            for other in others:
                self.assertEqual((meeters_count(other), told_meeters(other)), told)
        for lot in (FOUR, TOUCHED, FREE, UNTOLD):
            told = (meeters_count(lot), told_meeters(lot))
            for order in permutations(lot):
                self.assertEqual((meeters_count(order), told_meeters(order)), told)
                self.assertEqual((meeters_count(order + order[:3]), told_meeters(order + order[:3])), told)

    def test_eight_of_one_ring(self):
        for three in (THREE, UNTOLD[:3]):
            pairs = [(0, 1), (1, 0), (1, 1), (2, 1), (-1, 3), (5, 2), (1, -7), (3, 4)]
            lot = tuple(ring_rod(*three, s, t) for s, t in pairs)
            self.assertEqual((rank(lot), meeters_count(lot), told_meeters(lot)), (3, "endless", None))
            self.assertIs(all_meet(lot, ring_rod(*three, 9, 11)), True)
            self.assertIsNone(passing_meeter(lot, ring_rod(*three, 9, 11)))
            passing = passing_meeter(lot, any_meeter(lot))
            self.assertTrue(all(do_meet(passing, rod) for rod in lot))
            self.assertIs(do_meet(passing, any_meeter(lot)), False)

    def test_counts_are_plain(self):
        for lot in LOTS:
            count = meeters_count(lot)
            self.assertIn(count.__class__, (int, str))
        self.assertIs(meeters_count(FREE).__class__, int)
        self.assertIs(meeters_count(TOUCHED).__class__, int)


class Told(unittest.TestCase):
    def test_each_told_one_meets_all(self):
        for lot in LOTS:
            told, count = told_meeters(lot), meeters_count(lot)
            if count == "endless":
                self.assertIsNone(told)
                continue
            self.assertIs(told.__class__, tuple)
            self.assertIn(len(told), (0, count) if count == 2 else (count,))
            self.assertEqual(list(told), sorted(set(told)))
            for meeter in told:
                self.assertIs(is_rod(meeter), True)
                self.assertTrue(all(do_meet(meeter, rod) for rod in lot))

    def test_no_small_rod_is_forgotten(self):
        for lot in LOTS:
            told = told_meeters(lot)
            if told is not None:
                found = [rod for rod in SMALL if all(crossed_sum(rod, each) == 0 for each in lot)]
                self.assertLessEqual(set(found), set(told))

    def test_two_told_and_two_not(self):
        self.assertEqual(told_meeters(FOUR), (HIGH, ACROSS))
        self.assertEqual((meeters_count(UNTOLD), told_meeters(UNTOLD), any_meeter(UNTOLD)), (2, (), None))
        # A rod that cuts the tower in (1, 0, 0), and so in another told point.
        both = told_meeters(UNTOLD[:3] + (join((1, 1, 0, 0), (1, 0, 0, 1)),))
        self.assertEqual(len(both), 2)
        seen = [(meeters_count(lot), len(told_meeters(lot))) for lot in LOTS if meeters_count(lot) == 2]
        self.assertIn((2, 0), seen)
        self.assertIn((2, 2), seen)

    def test_far_rods(self):
        # In the far plane, through the far point of the first axis, and meeting the rod HIGH.
        lot = (FAR_X, FAR_Y, FAR_Z, (1, 0, 0, 0, 7, 0), HIGH)
        self.assertEqual(told_meeters(lot), (FAR_Z,))

    def test_numbers_of_400_figures(self):
        large = tuple(join((1, HUGE * at, at, 1), (0, at * at, HUGE, 1 + at)) for at in range(1, 6))
        for many in range(1, 6):
            self.assertEqual(meeters_count(large[:many]), expected_count(large[:many]))
        start, end = (1, HUGE, 2, 3), (HUGE, 1, HUGE, 0)
        lot = tuple(join(start, (1, at, at * at, 5)) for at in range(3))
        lot += (join(end, (1, 2, HUGE, 0)), join(end, (2, 3, 5, 7)))
        self.assertEqual(told_meeters(lot), (join(start, end),))


class Any(unittest.TestCase):
    def test_any_meeter(self):
        for lot in LOTS:
            meeter = any_meeter(lot)
            if meeter is None:
                self.assertEqual(told_meeters(lot), ())
            else:
                self.assertIs(is_rod(meeter), True)
                self.assertTrue(all(crossed_sum(meeter, rod) == 0 for rod in lot))

    def test_each_endless_one_has_a_told_one(self):
        for lot in [front + (rod,) for rod in SMALL for front in ((), (ACROSS,), (ACROSS, HIGH))]:
            meeter = any_meeter(lot)
            self.assertTrue(all(crossed_sum(meeter, rod) == 0 for rod in lot))

    def test_what_was_returned_may_be_passed(self):
        lot = THREE
        for _ in range(5):
            meeter = any_meeter(lot)
            self.assertTrue(all(do_meet(meeter, rod) for rod in lot))
            passing = passing_meeter(lot, meeter)
            if passing is not None:
                self.assertTrue(all(do_meet(passing, rod) for rod in lot))
            lot = (meeter, lot[0], lot[1])


class AllMeet(unittest.TestCase):
    def test_by_the_rows(self):
        both = {}
        for lot in LOTS:
            for rod in SMALLER[::7] + list(lot):
                told = all_meet(lot, rod)
                self.assertIs(told, expected_all_meet(lot, rod))
                both[told, meeters_count(lot)] = lot
        self.assertEqual(len(both), 7)

    def test_the_first_case(self):
        # Neither u nor v is 0: the rod is a sum of multiples of those of the lot, or not.
        for s, t in [(1, 1), (2, -3), (5, 7)]:
            self.assertIs(all_meet(THREE, ring_rod(*THREE, s, t)), True)
        self.assertIs(all_meet(THREE, ALONG), False)
        self.assertIs(all_meet((ACROSS, ALONG), (3, 5, 0, 0, 0, 0)), True)
        self.assertIs(all_meet((ACROSS, ALONG), UPRIGHT), False)
        self.assertIs(all_meet((ACROSS,), ACROSS), True)
        self.assertIs(all_meet((ACROSS,), ALONG), False)
        self.assertIs(all_meet(FOUR, ALONG), True)
        # Two meeters that are not told: neither meets this rod, or only one does; all sums do.
        self.assertIs(all_meet(UNTOLD, ACROSS), False)
        self.assertIs(all_meet(UNTOLD, ring_rod(*UNTOLD[:3], 1, 3)), True)

    def test_the_second_case(self):
        self.assertIs(all_meet(FREE, MAST), True)
        self.assertIs(all_meet(NET_OF_SCREW, UPRIGHT), True)
        self.assertIs(all_meet((ACROSS, ALONG, UPRIGHT, FAR_X, FAR_Y, FAR_Z), MAST), True)
        # One meeter, ACROSS: ALONG meets it and is no sum of multiples of the lot.
        self.assertIs(all_meet(TOUCHED, ALONG), True)
        self.assertEqual(rank(TOUCHED + (ALONG,)), 5)
        self.assertIs(all_meet(TOUCHED, HIGH), False)
        # Rods through one point, and in one plane, are met by all rods through it, and in it.
        self.assertIs(all_meet(PENCIL_POINT, (2, 3, 5, 0, 0, 0)), True)
        self.assertIs(all_meet(PENCIL_POINT, HIGH), False)
        self.assertIs(all_meet(PENCIL_PLANE, (1, 1, 0, 0, 0, 7)), True)
        self.assertIs(all_meet(PENCIL_PLANE, UPRIGHT), False)

    def test_every_told_meeter_meets_it(self):
        for lot in LOTS[::3]:
            meeters = [rod for rod in SMALL if all(crossed_sum(rod, each) == 0 for each in lot)]
            for rod in SMALLER[::5]:
                if all_meet(lot, rod):
                    self.assertTrue(all(do_meet(meeter, rod) for meeter in meeters))


class Passing(unittest.TestCase):
    def test_passing(self):
        none = {True: 0, False: 0}
        for lot in LOTS:
            for rod in SMALLER[::5] + list(lot):
                meeter = passing_meeter(lot, rod)
                if meeter is not None:
                    self.assertIs(is_rod(meeter), True)
                    self.assertTrue(all(crossed_sum(meeter, each) == 0 for each in lot))
                    self.assertNotEqual(crossed_sum(meeter, rod), 0)
                    self.assertIs(all_meet(lot, rod), False)
                    continue
                none[all_meet(lot, rod)] += 1
                if not all_meet(lot, rod):
                    # Only two meeters that are not told can pass unseen.
                    self.assertEqual((meeters_count(lot), told_meeters(lot)), (2, ()))
        self.assertGreater(none[True], 100)
        self.assertGreater(none[False], 10)

    def test_none(self):
        self.assertIsNone(passing_meeter(FOUR, ALONG))
        self.assertIsNone(passing_meeter(UNTOLD, ACROSS))
        self.assertIs(all_meet(UNTOLD, ACROSS), False)
        self.assertIsNone(passing_meeter(THREE, HIGH))
        self.assertIsNone(passing_meeter(FREE, MAST))

    def test_by_hand(self):
        self.assertIn(passing_meeter(FOUR, MAST), (HIGH, ACROSS))
        self.assertEqual(passing_meeter(TOUCHED, HIGH), ACROSS)


CALLS = [
    (rank, [("lot", LOT, THREE)]),
    (meeters_count, [("lot", LOT, FOUR)]),
    (told_meeters, [("lot", LOT, FOUR)]),
    (any_meeter, [("lot", LOT, THREE)]),
    (all_meet, [("lot", LOT, THREE), ("rod", ROD, ALONG)]),
    (passing_meeter, [("lot", LOT, THREE), ("rod", ROD, ALONG)]),
]


class Errors(ErrorChecks, unittest.TestCase):
    def test_by_name(self):
        self.check_by_name(CALLS)

    def test_each_parameter(self):
        self.check_each_parameter(CALLS)

    def test_the_first_of_two_wrong_ones(self):
        self.check_first_of_two(CALLS)

    def test_all_wrong_lots(self):
        indexes = set()
        for value, index in WRONG_LOTS:
            with self.assertRaises(InvalidLot) as caught:
                rank(value)
            self.assertIs(caught.exception.index, index)
            indexes.add(index)
        self.assertEqual(indexes, {None, 0, 1, 2, 3, 4, 5, 6, 7, 8})

    def test_eight_are_a_lot(self):
        for many in range(1, 9):
            self.assertIn(rank(SOME_RODS[:many]), range(1, 7))

    def test_lists_stay_as_they_are(self):
        held = [list(ACROSS), HIGH]
        with self.assertRaises(InvalidLot):
            rank(held)
        with self.assertRaises(InvalidLot):
            rank((ACROSS, held))
        self.assertEqual(held, [[1, 0, 0, 0, 0, 0], HIGH])

    def test_defined_in_their_file(self):
        self.check_defined(lots, [call.__name__ for call, _ in CALLS])


if __name__ == "__main__":
    unittest.main()
