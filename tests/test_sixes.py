"""Point 34, and the interface of stringrods/sixes.py."""

import random
import unittest
from itertools import permutations

from checks import FIVE, ROD, SIX, ErrorChecks
from references import rank_by_fractions
from samples import PLAIN, crossed_sum
from shapes import (
    ACROSS, ALONG, FIRST_SIX, GREAT, GREAT_SIX, LED_SIXES, MAPS, PROPS, SIXES, SMALL, TOWER, UPRIGHT, all_apart,
    joined, led_rod, led_six, meeters_by_roots, picked_lots, pool_by, six_by_roots, turned_rod, whole,
)
from stringrods import sixes
from stringrods.errors import InvalidRods, NotSix
from stringrods.lots import meeters_count, told_meeters
from stringrods.rods import is_rod
from stringrods.sixes import are_six, double_six

ALL_SIXES = SIXES + LED_SIXES + [GREAT_SIX]
# A rod of the cross ring of the tower, and a fourth rod that lies in a tangent with it: it alone meets all four.
BESIDE = (0, 1, -1, 0, 1, 1)
SLOPING = whole([a + b for a, b in zip(BESIDE, (4, -3, 5, -4, 3, 5))])


def is_six(rods, others):
    """[34]: the definition of what are_six tells."""
    crossing = all((crossed_sum(rod, other) == 0) == (i != j) for i, rod in enumerate(rods)
                   for j, other in enumerate(others))
    return crossing and all_apart(rods) and all_apart(others)


class Example(unittest.TestCase):
    def test_the_six(self):
        tops, bases = double_six(ACROSS, PROPS)
        told = [tops[:5] == PROPS, bases[5] == ACROSS, bases[4], bases[0], are_six(tops, bases), are_six(bases, tops),
                are_six(tops, tops)]
        self.assertEqual(told, [True, True, (0, 0, 0, 1, 0, 0), (1, 0, -4, 16, 4, 4), True, True, False])


class DoubleSixes(unittest.TestCase):
    def test_of_small_and_of_great_numbers(self):
        for rods, others in ALL_SIXES:
            told = double_six(others[5], rods[:5])
            self.assertEqual(told, (rods, others))
            self.assertEqual({told.__class__, told[0].__class__, told[1].__class__}, {tuple})
            self.assertTrue(is_six(*told))
            self.assertTrue(all(is_rod(rod) for half in told for rod in half))
            for at in range(6):
                # The four meet both: one is told by the others, too.
                four = rods[:5][:at] + rods[:5][at + 1:]
                if at < 5:
                    self.assertEqual(told_meeters(four), tuple(sorted((others[5], others[at]))))
            self.assertEqual(told_meeters(others[:5]), (rods[5],))

    def test_any_five_of_the_six_in_any_order(self):
        chance = random.Random(341)
        for rods, others in ALL_SIXES:
            for left in range(6):
                orders = list(permutations([at for at in range(6) if at != left]))
                for order in [orders[0], orders[-1]] + chance.sample(orders, 4):
                    told = double_six(others[left], tuple(rods[at] for at in order))
                    self.assertEqual(told[0], tuple(rods[at] for at in order) + (rods[left],))
                    self.assertEqual(told[1], tuple(others[at] for at in order) + (others[left],))
                    told = double_six(rods[left], tuple(others[at] for at in order))
                    self.assertEqual(told[0], tuple(others[at] for at in order) + (others[left],))
                    self.assertEqual(told[1], tuple(rods[at] for at in order) + (rods[left],))

    def test_pictures(self):
        for six in SIXES:
            for table in MAPS + [GREAT]:
                led = led_six(table, six)
                self.assertEqual(double_six(led[1][5], led[0][:5]), led)
                self.assertIs(are_six(*led), True)
                # A map that leads points to planes leads them to a double six as well.
                turned = tuple(tuple(turned_rod(table, rod) for rod in half) for half in six)
                self.assertEqual(double_six(turned[1][5], turned[0][:5]), turned)
                self.assertIs(are_six(*turned), True)

    def test_by_chance(self):
        chance = random.Random(342)
        seen = {True: 0, False: 0}
        for _ in range(400):
            five = []
            while len(five) < 5:
                start, end = (1, chance.randint(-4, 4), 0, 0), [chance.randint(-3, 3) for _ in range(4)]
                if any(end[2:]):
                    five.append(joined(whole(start), whole(end)))
            expected = six_by_roots(ACROSS, tuple(five))
            seen[expected is not None] += 1
            if expected is None:
                with self.assertRaises(NotSix):
                    double_six(ACROSS, tuple(five))
            else:
                self.assertEqual(double_six(ACROSS, tuple(five)), expected)
        self.assertGreater(min(seen.values()), 5)


class NoSixes(unittest.TestCase):
    def check_none(self, rod, five):
        for order in list(permutations(five))[::17]:
            with self.assertRaises(NotSix) as caught:
                double_six(rod, order)
            self.assertEqual(vars(caught.exception), {})

    def test_two_that_meet(self):
        # Two through one point of the first axis, two in one plane with it, one rod twice.
        for five in (PROPS[:4] + (joined((1, 0, 0, 0), (1, 0, 1, 5)),),
                     PROPS[:4] + (joined((1, 7, 0, 0), (1, 0, 0, 1)),),
                     PROPS[:4] + (PROPS[0],)):
            self.assertFalse(any(crossed_sum(ACROSS, rod) for rod in five))
            self.assertFalse(all_apart(five))
            self.check_none(ACROSS, five)

    def test_one_that_does_not_meet_the_rod(self):
        for at in range(5):
            shifted = led_rod(MAPS[1][:2] + ((1, 0, 1, 0), (3, 0, 0, 1)), PROPS[at])
            five = PROPS[:at] + (shifted,) + PROPS[at + 1:]
            self.assertNotEqual(crossed_sum(ACROSS, shifted), 0)
            self.check_none(ACROSS, five)
        rods, others = FIRST_SIX
        # Each of the other six meets all but one, and this one is among the five.
        for at in range(5):
            self.check_none(others[at], rods[:5])
        self.check_none((0, 1, 0, -1, 0, 0), PROPS)
        # The rod among the five, or one of the five as the rod.
        self.check_none(rods[0], rods[:5])
        self.check_none(ACROSS, rods[:4] + (ACROSS,))

    def test_sums_of_multiples_of_the_others(self):
        for five in picked_lots(ACROSS, 4, 5, 4, 343):
            self.assertTrue(all_apart(five) and not any(crossed_sum(ACROSS, rod) for rod in five))
            self.assertEqual(rank_by_fractions(five), 4)
            self.check_none(ACROSS, five)
        # Five rods with two meeters: each four have just one besides the first one, but the same one.
        high = (0, 1, 0, -1, 0, 0)
        five = tuple(joined((1, at, 0, 0), (1, 0, at * at + 1, 1)) for at in range(5))
        self.assertTrue(all_apart(five) and not any(crossed_sum(high, rod) for rod in five))
        for at in range(5):
            self.assertEqual(meeters_by_roots(five[:at] + five[at + 1:]), sorted([ACROSS, high]))
        self.check_none(ACROSS, five)
        self.check_none(high, five)

    def test_four_with_more_meeters(self):
        # Four rods of one ring, and a fifth one that meets one of the cross ring.
        four = TOWER + ((1, 0, 1, -1, 0, 1),)
        for fifth in [rod for rod in SMALL if crossed_sum(rod, BESIDE) == 0 and all_apart(four + (rod,))][:6]:
            self.assertEqual(meeters_count(four), "endless")
            self.check_none(BESIDE, four + (fifth,))
        self.check_none(BESIDE, four + ((4, -3, 5, -4, 3, 5),))

    def test_four_with_one_meeter_alone(self):
        four = TOWER + (SLOPING,)
        self.assertTrue(is_rod(SLOPING) and all_apart(four))
        self.assertEqual(told_meeters(four), (BESIDE,))
        fifths = [rod for rod in pool_by(random.Random(344), BESIDE, 40) if all_apart(four + (rod,))]
        fifths = [rod for rod in fifths if rank_by_fractions(four + (rod,)) == 5]
        self.assertGreater(len(fifths), 1)
        for fifth in fifths[:4]:
            self.check_none(BESIDE, four + (fifth,))


class AreSix(unittest.TestCase):
    def test_from_both_sides(self):
        for rods, others in ALL_SIXES:
            self.assertIs(are_six(rods, others), True)
            self.assertIs(are_six(others, rods), True)
            self.assertIs(are_six(rods, rods), False)
            order = (3, 1, 5, 0, 2, 4)
            self.assertIs(are_six(tuple(rods[at] for at in order), tuple(others[at] for at in order)), True)
            self.assertIs(are_six(tuple(rods[at] for at in order), others), False)

    def test_one_rod_changed(self):
        for six in ALL_SIXES[:3] + [GREAT_SIX]:
            for half in range(2):
                for at in range(6):
                    for rod in (ALONG, UPRIGHT, led_rod(MAPS[1], six[half][at]), six[1 - half][at], six[half][at - 1]):
                        changed = [list(each) for each in six]
                        changed[half][at] = rod
                        rods, others = map(tuple, changed)
                        self.assertIs(are_six(rods, others), is_six(rods, others))
                        if rod != six[half][at]:
                            self.assertIs(are_six(rods, others), False)

    def test_two_exchanged(self):
        for rods, others in ALL_SIXES[:3]:
            for i in range(6):
                for j in range(i):
                    swapped = list(rods)
                    swapped[i], swapped[j] = swapped[j], swapped[i]
                    self.assertIs(are_six(tuple(swapped), others), False)
                    self.assertIs(are_six(others, tuple(swapped)), False)
                    # One of each half, the rest where it was; then both of both halves.
                    one, two = list(rods), list(others)
                    one[i], two[j] = two[j], one[i]
                    self.assertIs(are_six(tuple(one), tuple(two)), False)
                    one, two = list(rods), list(others)
                    one[i], two[i] = two[i], one[i]
                    self.assertIs(are_six(tuple(one), tuple(two)), False)

    def test_halves_exchanged(self):
        for rods, others in ALL_SIXES[:3]:
            for many in range(1, 6):
                one, two = others[:many] + rods[many:], rods[:many] + others[many:]
                self.assertIs(are_six(one, two), False)
            self.assertIs(are_six(rods[3:] + rods[:3], others), False)
            self.assertIs(are_six(rods[3:] + rods[:3], others[3:] + others[:3]), True)

    def test_six_that_meet_as_they_should_but_meet_one_another(self):
        # Through one point and in one plane all meet: so do those of unlike indexes.
        same = (ACROSS,) * 6
        self.assertIs(are_six(same, same), False)
        self.assertIs(are_six(FIRST_SIX[0][:5] + FIRST_SIX[0][:1], FIRST_SIX[1]), False)
        # The edges of four points, and for each the one that is opposite: just these two do not meet.
        edges = tuple(joined(one, two) for at, one in enumerate(PLAIN) for two in PLAIN[at + 1:])
        for table in MAPS:
            led = tuple(led_rod(table, rod) for rod in edges)
            crossing = [[crossed_sum(rod, other) == 0 for other in led[::-1]] for rod in led]
            self.assertEqual(crossing, [[i != j for j in range(6)] for i in range(6)])
            self.assertIs(are_six(led, led[::-1]), False)

    def test_led(self):
        for rods, others in SIXES:
            for table in MAPS:
                moved = tuple(led_rod(table, rod) for rod in rods)
                self.assertIs(are_six(moved, others), table == PLAIN)


CALLS = [
    (double_six, [("rod", ROD, ACROSS), ("rods", FIVE, PROPS)]),
    (are_six, [("rods", SIX, FIRST_SIX[0]), ("others", SIX, FIRST_SIX[1])]),
]


class Errors(ErrorChecks, unittest.TestCase):
    def test_by_name(self):
        self.check_by_name(CALLS)

    def test_each_parameter(self):
        self.check_each_parameter(CALLS)

    def test_the_first_of_two_wrong_ones(self):
        self.check_first_of_two(CALLS)

    def test_not_six_is_last(self):
        for rod, five in ((ACROSS, PROPS[:4] + PROPS[:1]), (ALONG, PROPS), (BESIDE, TOWER + (SLOPING, TOWER[0]))):
            self.check_ahead_of_last([(double_six, [("rod", ROD, rod), ("rods", FIVE, five)], NotSix)])

    def test_what_is_kept(self):
        rods = FIRST_SIX[0]
        for value, index in (
            (rods, 5), (rods[:4], 4), ((), 0), (None, None), (list(PROPS), None), (rods + (None,), 5),
            (PROPS + (None,), 5), ((None,), 0), (PROPS[:3] + (None, None, None), 3), (PROPS[:3] + ((1, 2), 5), 3),
        ):
            self.check_raised(double_six, {"rod": ACROSS, "rods": value}, InvalidRods, "index", index)
        for value, index in ((rods + rods[:1], 6), (rods[:5], 5), ((), 0), (rods[:5] + (None, None), 5), (rods * 2, 6)):
            self.check_raised(are_six, {"rods": rods, "others": value}, InvalidRods, "index", index)
            self.check_raised(are_six, {"rods": value, "others": None}, InvalidRods, "index", index)

    def test_one_rod_twice_is_no_such_error(self):
        with self.assertRaises(NotSix):
            double_six(ACROSS, (UPRIGHT,) * 5)
        self.assertIs(are_six((UPRIGHT,) * 6, (ACROSS,) * 6), False)

    def test_defined_in_their_file(self):
        self.check_defined(sixes, [call.__name__ for call, _ in CALLS])


if __name__ == "__main__":
    unittest.main()
