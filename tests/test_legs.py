"""Points 29 and 30, and the interface of stringrods/legs.py."""

import random
import unittest
from fractions import Fraction

from checks import LOT, SCREW, ErrorChecks
from references import base_in_stairs, meeting_rows, noughts, rank_by_fractions, scaled, small_rods
from samples import HUGE, SOME_RODS, crossed_sum, is_reduced
from stringrods import legs
from stringrods.errors import NotJustOne
from stringrods.legs import borne, freedom, is_borne, is_loose, loose_screws, needless_legs, ties
from stringrods.lots import rank
from stringrods.spaces import join

AHEAD, ASIDE, UP = (1, 0, 0, 0, 0, 0), (0, 1, 0, 0, 0, 0), (0, 0, 1, 0, 0, 0)
AUGER, RIM = (0, 0, 1, 0, 0, 1), (0, 0, 0, 0, 0, 1)
FAR_X, FAR_Y = (0, 0, 0, 1, 0, 0), (0, 0, 0, 0, 1, 0)
CORNER, SLANT = (AHEAD, ASIDE, UP), (1, 1, 0, 0, 0, 0)
SIX = CORNER + ((0, 1, 0, -1, 0, 0), (0, 0, 1, 0, -1, 0), (1, 0, 0, 0, 0, -1))
NET = (AHEAD, ASIDE, FAR_X, FAR_Y, (1, 0, 1, 1, 0, -1), (0, 1, 1, 0, 1, -1))
RODS = small_rods(1)


def picked_lots():
    chance = random.Random(29)
    told = [CORNER, CORNER + (SLANT,), SIX, NET, NET[:5], (UP,), (UP, UP), SOME_RODS[:8], SIX + (SLANT, RIM)]
    for many in range(1, 9):
        told += [tuple(chance.choice(RODS) for _ in range(many)) for _ in range(12)]
        pool = [rod for rod in RODS if crossed_sum(rod, AUGER) == 0]
        told += [tuple(chance.choice(pool) for _ in range(many)) for _ in range(6)]
        pool = [rod for rod in RODS if crossed_sum(rod, UP) == 0 and crossed_sum(rod, AHEAD) == 0]
        told += [tuple(chance.choice(pool) for _ in range(many)) for _ in range(6)]
    told += [tuple(join((1, HUGE, at, 1), (1, at * at, 2, HUGE + at)) for at in range(5))]
    return told


LOTS = picked_lots()


def picked_screws(lot, chance):
    """Screws of all sorts: sums of multiples of the legs, loose ones, rods, others."""
    told = [AUGER, RIM, UP, (1, 2, 3, 4, 5, 6), (1, 0, 0, -1, 0, 0)] + list(lot) + meeting_rows(lot)
    for rows in (list(lot), meeting_rows(lot)):
        for _ in range(3):
            factors = [chance.randint(-3, 3) for _ in rows]
            total = [sum(factor * row[at] for factor, row in zip(factors, rows)) for at in range(6)]
            if any(total):
                told.append(scaled([Fraction(number) for number in total]))
    return told


def in_stairs(rows):
    """[30], word by word."""
    places = []
    for row in rows:
        if not is_reduced(row):
            return False
        places.append([at for at, number in enumerate(row) if number][0])
    if places != sorted(set(places)):
        return False
    return all(other[place] == 0 for row, place in zip(rows, places) for other in rows if other is not row)


class Example(unittest.TestCase):
    def test_the_corner(self):
        told = [freedom(CORNER), loose_screws(CORNER), is_loose(CORNER, SLANT), is_loose(CORNER, RIM)]
        self.assertEqual(told, [3, (AHEAD, ASIDE, UP), True, False])

    def test_what_is_borne(self):
        more = CORNER + (SLANT,)
        told = [borne(CORNER, (1, 2, 0, 0, 0, 0)), borne(CORNER, RIM), is_borne(more, (1, 2, 0, 0, 0, 0)), ties(more),
                ties(CORNER), needless_legs(more), freedom(more)]
        self.assertEqual(told, [((1, 1), (2, 1), (0, 1)), None, True, ((1, 1, 0, -1),), (), (0, 1, 3), 3])

    def test_six(self):
        told = [freedom(SIX), loose_screws(SIX), borne(SIX, RIM)]
        self.assertEqual(told, [0, (), ((1, 1), (0, 1), (0, 1), (0, 1), (0, 1), (-1, 1))])


class Freedom(unittest.TestCase):
    def test_of_each_rank(self):
        seen = set()
        for lot in LOTS:
            self.assertEqual(freedom(lot), 6 - rank_by_fractions(lot))
            self.assertEqual(freedom(lot), 6 - rank(lot))
            self.assertEqual(len(loose_screws(lot)), freedom(lot))
            seen.add(freedom(lot))
        self.assertEqual(seen, {0, 1, 2, 3, 4, 5})

    def test_one_leg_twice(self):
        self.assertEqual(freedom((UP, UP)), 5)
        self.assertEqual(freedom(SIX + (UP,)), 0)
        self.assertEqual(freedom((UP,) * 8), 5)


class Loose(unittest.TestCase):
    def test_the_base_in_stairs(self):
        for lot in LOTS:
            base = loose_screws(lot)
            self.assertIs(base.__class__, tuple)
            self.assertTrue(in_stairs(base))
            self.assertEqual(base, base_in_stairs(meeting_rows(lot)))
            for screw in base:
                self.assertIs(screw.__class__, tuple)
                self.assertIs(is_loose(lot, screw), True)

    def test_by_hand(self):
        self.assertEqual(loose_screws(NET), (AUGER,))
        self.assertEqual(loose_screws(SIX), ())
        self.assertEqual(loose_screws((AHEAD, ASIDE)), (AHEAD, ASIDE, UP, RIM))
        # A leg off the origin: y = 2, along the first axis.
        self.assertEqual(loose_screws(((1, 0, 0, 0, 0, -2),)),
                         (AHEAD, ASIDE, (0, 0, 1, 2, 0, 0), FAR_Y, RIM))

    def test_is_loose(self):
        chance = random.Random(30)
        seen = set()
        for lot in LOTS:
            for screw in picked_screws(lot, chance):
                expected = all(crossed_sum(screw, rod) == 0 for rod in lot)
                self.assertIs(is_loose(lot, screw), expected)
                seen.add((expected, crossed_sum(screw, screw) == 0))
        self.assertEqual(len(seen), 4)


class Borne(unittest.TestCase):
    def test_exactly_if_each_loose_screw_has_the_product_0(self):
        chance = random.Random(31)
        seen = set()
        for lot in LOTS:
            loose = loose_screws(lot)
            for screw in picked_screws(lot, chance):
                expected = all(crossed_sum(screw, each) == 0 for each in loose)
                self.assertIs(is_borne(lot, screw), expected)
                hang = rank_by_fractions(lot) < len(lot)
                seen.add((expected, hang, crossed_sum(screw, screw) == 0))
                if hang:
                    with self.assertRaises(NotJustOne):
                        borne(lot, screw)
                    continue
                told = borne(lot, screw)
                self.assertIs(told is not None, expected)
                if told is not None:
                    self.check_fractions(lot, screw, told)
        self.assertEqual(len(seen), 8)

    def check_fractions(self, lot, screw, told):
        self.assertIs(told.__class__, tuple)
        self.assertEqual(len(told), len(lot))
        for number, part in told:
            self.assertEqual((number, part), (Fraction(number, part).numerator, Fraction(number, part).denominator))
        factors = [Fraction(*pair) for pair in told]
        self.assertEqual([sum(f * rod[at] for f, rod in zip(factors, lot)) for at in range(6)], list(screw))

    def test_by_hand(self):
        self.assertEqual(borne((UP,), UP), ((1, 1),))
        self.assertIsNone(borne((UP,), AHEAD))
        # (1, 1, 0) and (1, -1, 0), half and half.
        self.assertEqual(borne((SLANT, (1, -1, 0, 0, 0, 0)), AHEAD), ((1, 2), (1, 2)))
        self.assertEqual(borne((SLANT, (1, -1, 0, 0, 0, 0)), ASIDE), ((1, 2), (-1, 2)))
        # Legs that hang together, with a push that is borne and with one that is not.
        for screw in (AHEAD, RIM):
            with self.assertRaises(NotJustOne):
                borne(CORNER + (SLANT,), screw)
        self.assertIs(is_borne(CORNER + (SLANT,), RIM), False)
        with self.assertRaises(NotJustOne):
            borne((UP, UP), UP)
        self.assertEqual(borne(SIX, AUGER), ((1, 1), (0, 1), (1, 1), (0, 1), (0, 1), (-1, 1)))


class Ties(unittest.TestCase):
    def test_the_base_in_stairs(self):
        for lot in LOTS:
            base = ties(lot)
            self.assertIs(base.__class__, tuple)
            self.assertTrue(in_stairs(base))
            columns = [[rod[at] for rod in lot] for at in range(6)]
            self.assertEqual(base, base_in_stairs(noughts(columns, len(lot))))
            self.assertEqual(len(base), len(lot) - rank(lot))
            for tie in base:
                self.assertEqual([sum(k * rod[at] for k, rod in zip(tie, lot)) for at in range(6)], [0] * 6)

    def test_by_hand(self):
        self.assertEqual(ties((UP, UP)), ((1, -1),))
        self.assertEqual(ties((UP, AHEAD, UP, UP)), ((1, 0, 0, -1), (0, 0, 1, -1)))
        self.assertEqual(ties((AHEAD, ASIDE, (2, -3, 0, 0, 0, 0))), ((2, -3, -1),))
        self.assertEqual(ties((AHEAD,)), ())
        self.assertEqual(ties((SLANT, (1, -1, 0, 0, 0, 0), AHEAD, ASIDE)), ((1, 0, -1, -1), (0, 1, -1, 1)))


class Needless(unittest.TestCase):
    def test_exactly_those_without_which_the_freedom_is_the_same(self):
        for lot in LOTS:
            told = needless_legs(lot)
            expected = [at for at in range(len(lot))
                        if rank_by_fractions(lot[:at] + lot[at + 1:]) == rank_by_fractions(lot)]
            self.assertIs(told.__class__, tuple)
            self.assertEqual(list(told), expected)

    def test_by_hand(self):
        self.assertEqual(needless_legs((UP, AHEAD, UP)), (0, 2))
        self.assertEqual(needless_legs((UP,)), ())
        self.assertEqual(needless_legs(SIX), ())
        self.assertEqual(needless_legs(SIX + (RIM,)), (0, 5, 6))


CALLS = [
    (freedom, [("lot", LOT, CORNER)]),
    (loose_screws, [("lot", LOT, CORNER)]),
    (is_loose, [("lot", LOT, CORNER), ("screw", SCREW, AUGER)]),
    (is_borne, [("lot", LOT, CORNER), ("screw", SCREW, AUGER)]),
    (borne, [("lot", LOT, SIX), ("screw", SCREW, AUGER)]),
    (ties, [("lot", LOT, CORNER + (SLANT,))]),
    (needless_legs, [("lot", LOT, CORNER + (SLANT,))]),
]


class Errors(ErrorChecks, unittest.TestCase):
    def test_by_name(self):
        self.check_by_name(CALLS)

    def test_each_parameter(self):
        self.check_each_parameter(CALLS)

    def test_the_first_of_two_wrong_ones(self):
        self.check_first_of_two(CALLS)

    def test_not_just_one_is_last(self):
        for screw in (AHEAD, RIM):
            parameters = [("lot", LOT, CORNER + (SLANT,)), ("screw", SCREW, screw)]
            self.check_ahead_of_last([(borne, parameters, NotJustOne)])

    def test_defined_in_their_file(self):
        self.check_defined(legs, [call.__name__ for call, _ in CALLS])


if __name__ == "__main__":
    unittest.main()
