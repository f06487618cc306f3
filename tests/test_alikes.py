"""Point 33, and the interface of stringrods/alikes.py."""

import random
import unittest
from fractions import Fraction
from itertools import permutations

from checks import ErrorChecks
from references import noughts, rank_by_fractions
from samples import PLAIN, crossed_sum, determinant
from shapes import (
    ACROSS, AUGER, GREAT, MAPS, MIRROR, SHIFT, SMALL, all_apart, apart_lot, led_rod, picked_lots, picked_tables,
    pool_by,
    table_of_rows, turned_rod, whole, wrong_apart,
)
from stringrods import alikes
from stringrods.alikes import are_alike, factors, parting_round, parting_ties, tables_between
from stringrods.errors import InvalidLot, NotJustOne
from stringrods.rods import is_rod
from stringrods.tables import is_table, rod_by

UP, LEFT, RIGHT, FAR = (0, 0, 1, 0, 0, 0), (1, 0, 0, 0, 0, -1), (0, 1, 0, -1, 0, 1), (0, 1, 0, -2, 0, 1)
THREE, OTHER = (UP, LEFT, RIGHT), (UP, LEFT, FAR)
FOUR = THREE + ((1, 1, 1, 3, -1, -2),)


def lots():
    """Lots of each length and rank, all of them apart."""
    told = [THREE, OTHER, FOUR]
    for length in range(3, 9):
        told += picked_lots(None, min(length, 6), length, 2, 330 + length)
    told += picked_lots(None, 6, 6, 3, 331)
    told += picked_lots(AUGER, 5, 5, 2, 340) + picked_lots(AUGER, 5, 7, 1, 341)
    told += picked_lots(ACROSS, 5, 5, 2, 342) + picked_lots(ACROSS, 5, 6, 1, 343)
    return told


LOTS = lots()


def round_product(left, right, a, b, c, d):
    first = crossed_sum(left[a], left[b]) * crossed_sum(left[c], left[d])
    return first * crossed_sum(right[b], right[c]) * crossed_sum(right[d], right[a])


def unlike_rounds(left, right):
    """All four indexes of [33] whose round products are unlike."""
    return [four for four in permutations(range(len(left)), 4)
            if round_product(left, right, *four) != round_product(right, left, *four)]


def tie_base(rows):
    """A base of the ties of rows, worked out by fractions."""
    return noughts([[row[at] for row in rows] for at in range(6)], len(rows))


def is_tie(numbers, rows):
    return not any(sum(k * row[at] for k, row in zip(numbers, rows)) for at in range(6))


def grown(other, told):
    """The rods of the other lot, each times its factor."""
    return [[Fraction(*pair) * number for number in rod] for pair, rod in zip(told[1], other)]


def same_ties(lot, other, told):
    rows = grown(other, told)
    return all(is_tie(k, rows) for k in tie_base(lot)) and all(is_tie(k, lot) for k in tie_base(rows))


class Checks(unittest.TestCase):
    def check_fraction(self, pair):
        self.assertIs(pair.__class__, tuple)
        value = Fraction(*pair)
        self.assertEqual(pair, (value.numerator, value.denominator))
        self.assertNotEqual(value, 0)
        return value

    def check_factors(self, lot, other, told):
        self.assertIs(told.__class__, tuple)
        self.assertEqual((len(told), len(told[1]), told[1][0]), (2, len(lot), (1, 1)))
        self.assertIs(told[1].__class__, tuple)
        common, each = self.check_fraction(told[0]), [self.check_fraction(pair) for pair in told[1]]
        for i in range(len(lot)):
            for j in range(len(lot)):
                self.assertEqual(each[i] * each[j] * crossed_sum(other[i], other[j]),
                                 common * crossed_sum(lot[i], lot[j]))

    def check_between(self, lot, other):
        """Check all that is told of two lots against the words of [33]; return what sort of case it is."""
        rounds = unlike_rounds(lot, other)
        told = factors(lot, other)
        self.assertIs(told is None, bool(rounds))
        parting, ties = parting_round(lot, other), parting_ties(lot, other)
        if rounds:
            self.assertIn(parting, rounds)
            self.assertIs(parting.__class__, tuple)
            self.assertIsNone(ties)
            self.assertIs(are_alike(lot, other), False)
            return "unlike rounds"
        self.assertIsNone(parting)
        self.check_factors(lot, other, told)
        alike = same_ties(lot, other, told)
        self.assertIs(are_alike(lot, other), alike)
        if alike:
            self.assertIsNone(ties)
            return "alike"
        self.assertEqual(len(ties), len(lot))
        self.assertEqual({ties.__class__} | {number.__class__ for number in ties}, {tuple, int})
        self.assertTrue(any(ties))
        self.assertNotEqual(is_tie(ties, lot), is_tie(ties, grown(other, told)))
        return "unlike ties"

    def check_tables(self, lot, other, told):
        self.assertIs(told.__class__, tuple)
        self.assertEqual(len(told), 2)
        for table, lead in zip(told, (led_rod, turned_rod)):
            if table is not None:
                self.assertIs(is_table(table), True)
                self.assertEqual(tuple(lead(table, rod) for rod in lot), other)


class Example(Checks):
    def test_three(self):
        told = [factors(THREE, OTHER), are_alike(THREE, OTHER), parting_round(THREE, OTHER)]
        self.assertEqual(told, [((1, 2), ((1, 1), (1, 2), (1, 2))), True, None])

    def test_four(self):
        told = [factors(FOUR, FOUR), are_alike(FOUR, FOUR[::-1]), parting_ties(FOUR, FOUR)]
        self.assertEqual(told, [((1, 1), ((1, 1), (1, 1), (1, 1), (1, 1))), True, None])
        with self.assertRaises(NotJustOne):
            tables_between(FOUR, FOUR)


class Led(Checks):
    def test_led_by_tables(self):
        signs = set()
        for lot in LOTS:
            for table in MAPS + [GREAT]:
                for lead in (led_rod, turned_rod):
                    other = tuple(lead(table, rod) for rod in lot)
                    self.assertTrue(all_apart(other) and all(is_rod(rod) for rod in other))
                    self.assertEqual(self.check_between(lot, other), "alike")
                    told = factors(lot, other)
                    signs.update(Fraction(*pair) > 0 for pair in (told[0],) + told[1])
                    signs.update(pair[1] > 1 for pair in told[1])
        self.assertEqual(signs, {True, False})

    def test_mirrored_lots_have_a_factor_below_0(self):
        # Products of three, two by two, change their sign in a mirror, whatever the F_i are.
        for lot in LOTS:
            other = tuple(led_rod(MIRROR, rod) for rod in lot)
            self.assertLess(factors(lot, other)[0][0], 0)
            self.assertGreater(factors(lot, lot)[0][0], 0)

    def test_back_and_on(self):
        for lot in LOTS[::3]:
            other = tuple(turned_rod(MAPS[4], rod) for rod in lot)
            third = tuple(led_rod(MAPS[5], rod) for rod in other)
            there, on, both = factors(lot, other), factors(other, third), factors(lot, third)
            back = factors(other, lot)
            for at in range(len(lot)):
                self.assertEqual(Fraction(*there[1][at]) * Fraction(*back[1][at]), 1)
                self.assertEqual(Fraction(*there[1][at]) * Fraction(*on[1][at]), Fraction(*both[1][at]))
            self.assertEqual(Fraction(*there[0]) * Fraction(*back[0]), 1)
            self.assertEqual(Fraction(*there[0]) * Fraction(*on[0]), Fraction(*both[0]))


class Unlike(Checks):
    def test_three_rods_always_have_factors(self):
        chance = random.Random(333)
        pool = pool_by(chance, None, 60)
        for _ in range(40):
            lot, other = apart_lot(chance, pool, 3), apart_lot(chance, pool, 3)
            self.assertEqual(self.check_between(lot, other), "alike")

    def test_one_rod_moved(self):
        seen = set()
        for lot in LOTS:
            for at in range(len(lot)):
                for table in (SHIFT, MAPS[6]):
                    other = lot[:at] + (rod_by(table, lot[at]),) + lot[at + 1:]
                    if all_apart(other):
                        seen.add((len(lot) > 3, self.check_between(lot, other)))
        self.assertLessEqual({(True, "unlike rounds"), (False, "alike")}, seen)

    def test_in_another_order(self):
        seen = set()
        for lot in LOTS:
            for other in (lot[::-1], lot[1:] + lot[:1], lot[1::-1] + lot[2:]):
                seen.add(self.check_between(lot, other))
                led = tuple(turned_rod(MAPS[7], rod) for rod in other)
                self.assertEqual(self.check_between(lot, led), self.check_between(lot, other))
        self.assertEqual(seen, {"alike", "unlike rounds"})

    def test_by_chance(self):
        for lot in LOTS:
            for other in LOTS:
                if len(lot) == len(other):
                    self.check_between(lot, other)

    def test_just_one_round_parts(self):
        # Products of four rods are p1 = (01)(23), p2 = (02)(13), p3 = (03)(12), but for factors: two lots
        # may part in some of the three rounds of four rods alone.
        seen = set()
        chance = random.Random(334)
        for _ in range(150):
            # Of small numbers, so that some of the products are the same.
            lot, other = apart_lot(chance, SMALL, 4), apart_lot(chance, SMALL, 4)
            first, second, third = [round_product(lot, other, *four) == round_product(other, lot, *four)
                                    for four in ((0, 1, 2, 3), (0, 1, 3, 2), (0, 2, 1, 3))]
            if first or second or third:
                seen.add((first, second, third))
                self.check_between(lot, other)
        self.assertLessEqual({(True, False, False), (False, True, False), (False, False, True)}, seen)


def slid(lot, at, many):
    """A rod that meets the same as before of those that meet a rod: in the plane and through the point of both."""
    row = [a + many * b for a, b in zip(lot[at], ACROSS)]
    return lot[:at] + (whole(row),) + lot[at + 1:]


class UnlikeTies(Checks):
    def test_products_alone_do_not_make_them_alike(self):
        # All meet one rod, so a rod and a multiple of that one have the products of the rod.
        seen = {}
        for rank in (4, 5):
            for length in (5, 6, 7):
                for lot in picked_lots(ACROSS, rank, length, 2, 350 + 10 * rank + length):
                    for at in range(length):
                        other = slid(lot, at, at - 3 if at != 3 else 5)
                        sort = self.check_between(lot, other)
                        # Both ways, once a tie of the first one and once of the other one.
                        self.assertEqual(self.check_between(other, lot), sort)
                        key = (sort, rank_by_fractions(lot), rank_by_fractions(other))
                        seen[key] = seen.get(key, 0) + 1
                        led = tuple(led_rod(MAPS[5], rod) for rod in other)
                        self.assertEqual(self.check_between(lot, led), sort)
        sorts = {sort for sort, _, _ in seen}
        self.assertEqual(sorts, {"alike", "unlike ties"})
        self.assertTrue(any(key[0] == "unlike ties" and key[1] < key[2] for key in seen))
        self.assertTrue(any(key[0] == "unlike ties" and key[1] == key[2] == 5 for key in seen))
        # Of the rank 5, five rods have no ties, and so they stay alike.
        self.assertTrue(any(key == ("alike", 5, 5) for key in seen))

    def test_by_hand(self):
        # Rods across the first axis at x = 0, 1, 2, 3 that all meet a far rod, too, so that they hang together.
        lot = tuple(whole([0, 1, at, 0, -at * at, at]) for at in range(5))
        self.assertTrue(all_apart(lot))
        other = slid(lot, 4, 1)
        self.assertLess(rank_by_fractions(lot), rank_by_fractions(other))
        self.assertEqual(factors(lot, other), ((1, 1), ((1, 1),) * 5))
        self.assertIs(are_alike(lot, other), False)
        self.assertIsNone(parting_round(lot, other))
        for one, two in ((lot, other), (other, lot)):
            told = parting_ties(one, two)
            self.assertNotEqual(is_tie(told, one), is_tie(told, two))
        self.assertIs(are_alike(lot[:3], other[:3]), True)


class Tables(Checks):
    def test_of_rank_6_just_one_map(self):
        lots = [lot for lot in LOTS if rank_by_fractions(lot) == 6]
        self.assertGreater(len(lots), 5)
        for lot in lots:
            for table in MAPS + [GREAT]:
                other = tuple(led_rod(table, rod) for rod in lot)
                self.assertEqual(tables_between(lot, other), (table, None))
                other = tuple(turned_rod(table, rod) for rod in lot)
                self.assertEqual(tables_between(lot, other), (None, table))

    def test_of_rank_5_one_of_each_sort(self):
        lots = picked_lots(AUGER, 5, 5, 2, 335) + picked_lots(AUGER, 5, 8, 1, 336)
        lots += picked_lots((1, 2, 3, 4, 5, 6), 5, 6, 2, 337) + picked_lots((1, 0, 2, -3, 1, 0), 5, 5, 1, 338)
        for lot in lots:
            for table in MAPS + [GREAT]:
                for at, lead in enumerate((led_rod, turned_rod)):
                    other = tuple(lead(table, rod) for rod in lot)
                    told = tables_between(lot, other)
                    self.assertNotIn(None, told)
                    self.assertEqual(told[at], table)
                    self.check_tables(lot, other, told)

    def test_of_rank_5_just_one_in_all_where_they_meet_one_rod(self):
        lots = picked_lots(ACROSS, 5, 5, 2, 339) + picked_lots(ACROSS, 5, 7, 1, 344)
        lots += picked_lots((0, 0, 0, 1, 2, -1), 5, 6, 1, 345) + picked_lots((1, 1, 2, -1, -1, 1), 5, 5, 1, 346)
        for lot in lots:
            for table in MAPS + [GREAT]:
                other = tuple(led_rod(table, rod) for rod in lot)
                self.assertEqual(tables_between(lot, other), (table, None))
                other = tuple(turned_rod(table, rod) for rod in lot)
                self.assertEqual(tables_between(lot, other), (None, table))

    def test_lots_that_are_slid_along_are_led_by_another_map(self):
        # Five rods that meet one, one of them slid: alike, and so led by a map that is none of the plain ones.
        for lot in picked_lots(ACROSS, 5, 5, 3, 347):
            for at in range(5):
                other = slid(lot, at, 2)
                if rank_by_fractions(other) == 5:
                    told = tables_between(lot, other)
                    self.assertEqual(len([1 for table in told if table is not None]), 1)
                    self.check_tables(lot, other, told)

    def test_each_lot_to_itself(self):
        for lot in LOTS:
            if rank_by_fractions(lot) == 6:
                self.assertEqual(tables_between(lot, lot), (PLAIN, None))
            elif rank_by_fractions(lot) == 5:
                self.assertEqual(tables_between(lot, lot)[0], PLAIN)
        # Turned by the screw, which leads points to their pole planes, all rods of its net stay.
        lot = picked_lots(AUGER, 5, 6, 1, 348)[0]
        planes = tables_between(lot, lot)[1]
        self.assertEqual(planes, ((0, 0, 0, 1), (0, 0, 1, 0), (0, -1, 0, 0), (-1, 0, 0, 0)))

    def test_none_for_lots_that_are_not_alike(self):
        for lot in LOTS:
            if rank_by_fractions(lot) < 5:
                continue
            for other in (lot[::-1], lot[1:] + lot[:1], lot[:1] + lot[2:] + lot[1:2]):
                told = tables_between(lot, other)
                self.assertIs(told is not None, are_alike(lot, other))
                if told is not None:
                    self.check_tables(lot, other, told)
        lot = picked_lots(ACROSS, 5, 6, 1, 349)[0]
        self.assertIsNone(tables_between(lot, slid(lot, 2, 1)))
        self.assertIsNone(tables_between(lot, lot[::-1]))

    def test_not_just_one_below_rank_5(self):
        fives = picked_lots(ACROSS, 4, 5, 1, 351) + picked_lots(ACROSS, 4, 6, 1, 352)
        for lot in [lot for lot in LOTS if rank_by_fractions(lot) < 5] + fives:
            for other in (lot, lot[::-1], tuple(led_rod(MAPS[4], rod) for rod in lot)):
                with self.assertRaises(NotJustOne):
                    tables_between(lot, other)
        # The rank of the first lot counts: the other one may have a greater one, and be alike or not.
        lot = fives[0]
        for at in range(5):
            other = slid(lot, at, 1)
            with self.assertRaises(NotJustOne):
                tables_between(lot, other)
            if rank_by_fractions(other) == 5:
                self.assertIs(are_alike(lot, other), False)
                self.assertIsNone(tables_between(other, lot))

    def test_determinants_tell_the_sign_of_the_factor(self):
        lot = picked_lots(None, 6, 6, 1, 353)[0]
        seen = set()
        for table in MAPS + picked_tables(20, 354):
            told = factors(lot, tuple(led_rod(table, rod) for rod in lot))[0]
            self.assertIs(told[0] > 0, determinant(table) > 0)
            seen.add(told[0] > 0)
        self.assertEqual(seen, {True, False})
        # Led on to planes by an even table, a lot is mirrored, too.
        self.assertEqual(factors(lot, tuple(turned_rod(PLAIN, rod) for rod in lot))[0], (1, 1))


SIX = picked_lots(None, 6, 6, 1, 355)[0]
WRONG = (InvalidLot, "index", wrong_apart(SIX))
WRONG_OTHER = (InvalidLot, "index", wrong_apart(SIX) + [(SIX[:at], None) for at in (3, 4, 5)] + [
    (SIX + (rod,), None) for rod in (SIX[0], None, ACROSS, (2, 0, 0, 0, 0, 0))
] + [((None,) + SIX[:at], None) for at in (2, 3, 4)])
CALLS = [(call, [("lot", WRONG, SIX), ("other", WRONG_OTHER, tuple(led_rod(MAPS[4], rod) for rod in SIX))])
         for call in (factors, are_alike, parting_round, parting_ties, tables_between)]


class Errors(ErrorChecks, unittest.TestCase):
    def test_by_name(self):
        self.check_by_name(CALLS)
        for call, _ in CALLS[:4]:
            for lot, other in ((FOUR, FOUR[::-1]), (LOTS[5], LOTS[6]), (LOTS[6], LOTS[5])):
                self.assertEqual(call(other=other, lot=lot), call(lot, other))

    def test_each_parameter(self):
        self.check_each_parameter(CALLS)

    def test_the_first_of_two_wrong_ones(self):
        self.check_first_of_two(CALLS)

    def test_not_just_one_is_last(self):
        wrong = (InvalidLot, "index", wrong_apart(FOUR))
        for other in (FOUR, FOUR[::-1], OTHER + FOUR[3:]):
            if all_apart(other):
                self.check_ahead_of_last([(tables_between, [("lot", wrong, FOUR), ("other", wrong, other)],
                                           NotJustOne)])

    def test_lengths(self):
        lot = picked_lots(None, 6, 8, 1, 356)[0]
        for many in range(3, 9):
            self.assertIs(are_alike(lot[:many], lot[:many]), True)
            for length in [each for each in range(3, 9) if each != many]:
                self.check_raised(are_alike, {"lot": lot[:many], "other": lot[:length]}, InvalidLot, "index", None)

    def test_what_meets_one_ahead(self):
        # The second and the fourth rod meet; the same rod twice meets itself, too.
        fourth = [rod for rod in pool_by(random.Random(357), THREE[1], 50)
                  if crossed_sum(rod, THREE[0]) and crossed_sum(rod, THREE[2])][0]
        self.check_raised(factors, {"lot": THREE + (fourth,), "other": FOUR}, InvalidLot, "index", 3)
        self.check_raised(factors, {"lot": FOUR, "other": THREE + (fourth,)}, InvalidLot, "index", 3)
        self.check_raised(factors, {"lot": FOUR, "other": (UP, UP, None, None)}, InvalidLot, "index", 1)
        self.check_raised(factors, {"lot": (UP, LEFT, UP, None), "other": FOUR}, InvalidLot, "index", 2)

    def test_nothing_is_changed(self):
        lot, other = [lot for lot in LOTS if len(lot) == 8]
        again = (tuple(map(tuple, lot)), tuple(map(tuple, other)))
        for call, _ in CALLS:
            call(lot, other)
        self.assertEqual((lot, other), again)

    def test_defined_in_their_file(self):
        self.check_defined(alikes, [call.__name__ for call, _ in CALLS])


class MapsOfSpace(unittest.TestCase):
    def test_the_references_agree_with_the_package(self):
        for table in MAPS:
            for rod in SIX:
                self.assertEqual(led_rod(table, rod), rod_by(table, rod))
            self.assertEqual(table_of_rows([list(row) for row in table]), table)


if __name__ == "__main__":
    unittest.main()
