"""Points 2 and 37, and the interface of stringrods/certificates.py."""

import random
import unittest

from checks import CUBIC, FRACTION, LOT, POINT, ROD, SCREW, SIX, SURFACE, TABLE, ErrorChecks, kept
from claims import APART, BODY, CORNER, FREE, HANGING, LED, MAST, PARTED, SIX_LEGS, SLANT, SLID, TURN, is_so
from samples import HUGE, NO_WHOLES, PLAIN
from shapes import (
    ACROSS, ALONG, AUGER, FIRST_SIX, GREAT, GREAT_SIX, MAPS, SIXES, SMALL, TALL, TOWER, UPRIGHT, all_apart,
    apart_lot, led_rod, led_six, pool_by, turned_rod, wrong_apart,
)
from shops import FAR, FOUR, HIGH, WAIST
from stringrods import certificates
from stringrods.alikes import are_alike, factors, parting_round
from stringrods.certificates import (
    certify_alike, certify_all_meet, certify_borne, certify_cubic, certify_gap, certify_hand, certify_kind,
    certify_loose, certify_meeters, certify_meeting, certify_off, certify_one, certify_rigid, certify_ring, certify_six,
    certify_stars,
)
from stringrods.checker import accepts
from stringrods.cubics import all_rods, cubic_through, has_rod, stars
from stringrods.errors import (
    Far, InvalidIndex, InvalidLot, Meeting, NotJustOne, NotRigid, NotSix, NotTold,
)
from stringrods.gaps import gap
from stringrods.legs import freedom, is_borne
from stringrods.lots import all_meet, meeters_count, passing_meeter
from stringrods.rings import in_ring, keeps_off
from stringrods.rods import do_meet, hand
from stringrods.surfaces import surface_kind, surface_of
from stringrods.tables import back_table, five_to_five, followed, is_rigid, point_by

# Three rods of the tower, and a rod that cuts it in two points that are not told by fractions.
UNTOLD = TOWER + ((1, 1, 0, 0, 0, 0),)
CHANCE = random.Random(370)
POOL = pool_by(CHANCE, None, 25) + list(TOWER) + [ACROSS, ALONG, UPRIGHT, HIGH, MAST, FAR, (0, 0, 0, 1, 2, 0)]
GREAT_POOL = [led_rod(GREAT, rod) for rod in POOL]


class Checks(unittest.TestCase):
    def check_pair(self, pair, word, *parts):
        """Check a pair of a claim and a paper; return the paper."""
        self.assertIs(pair.__class__, tuple)
        self.assertEqual(len(pair), 2)
        claim, paper = pair
        self.assertIs(claim.__class__, tuple)
        self.assertEqual(claim[0], word)
        self.assertEqual(len(claim), len(parts) + 1)
        for told, part in zip(claim[1:], parts):
            self.assertEqual(told, part)
            self.assertIs(told.__class__, part.__class__)
        self.assertIs(accepts(claim, paper), True, pair)
        self.assertIs(is_so(claim, paper), True, pair)
        return paper

    def lots(self):
        told = [FOUR, FREE, CORNER, SIX_LEGS, UNTOLD, (ACROSS,) * 8, (ACROSS,)]
        for pool in (POOL, GREAT_POOL, SMALL):
            told += [tuple(CHANCE.choice(pool) for _ in range(many)) for many in range(1, 9) for _ in range(2)]
        return told


class Certified(Checks):
    def test_meeting(self):
        words = set()
        for pool in (POOL, GREAT_POOL):
            for rod in pool:
                for other in pool[::3]:
                    word = "meet" if do_meet(rod, other) else "apart"
                    paper = self.check_pair(certify_meeting(rod, other), word, rod, other)
                    if word == "apart":
                        self.assertEqual(paper, ())
                    words.add((word, rod == other))
        self.assertEqual(words, {("meet", True), ("meet", False), ("apart", False)})

    def test_hands(self):
        signs = set()
        for pool in (POOL, GREAT_POOL, SMALL):
            for _ in range(20):
                three = apart_lot(CHANCE, pool, 3)
                sign = hand(*three)
                self.assertEqual(self.check_pair(certify_hand(*three), "hand", *three, sign), ())
                signs.add(sign)
        self.assertEqual(signs, {1, -1})

    def test_meeters(self):
        counts = set()
        for lot in self.lots() + [(UPRIGHT, (1, 0, 1, 0, 0, 0), (0, 1, 1, 0, -1, 1), (0, 1, -1, 0, -1, -1))]:
            count = meeters_count(lot)
            self.assertEqual(self.check_pair(certify_meeters(lot), "meeters", lot, count), ())
            counts.add(count)
        self.assertEqual(counts, {0, 1, 2, "endless"})

    def test_all_meet(self):
        words = set()
        for lot in self.lots():
            for rod in [ACROSS, ALONG, HIGH, MAST, lot[0], (1, 2, 3, 3, 0, -1)]:
                if all_meet(lot, rod):
                    self.assertEqual(self.check_pair(certify_all_meet(lot, rod), "all meet", lot, rod), ())
                    words.add("all meet")
                elif passing_meeter(lot, rod) is None:
                    with self.assertRaises(NotTold):
                        certify_all_meet(lot, rod)
                    self.assertEqual(meeters_count(lot), 2)
                    words.add("not told")
                else:
                    self.check_pair(certify_all_meet(lot, rod), "passes", lot, rod)
                    words.add("passes")
        self.assertEqual(words, {"all meet", "not told", "passes"})

    def test_not_told(self):
        self.assertEqual(meeters_count(UNTOLD), 2)
        for rod in (MAST, HIGH, UPRIGHT):
            with self.assertRaises(NotTold) as caught:
                certify_all_meet(UNTOLD, rod)
            self.assertEqual(vars(caught.exception), {})
        self.check_pair(certify_all_meet(UNTOLD, (1, 0, 1, -1, 0, 1)), "all meet", UNTOLD, (1, 0, 1, -1, 0, 1))

    def test_rings(self):
        words = set()
        fours = [TOWER + (rod,) for rod in SMALL[::9] + [(1, 0, 1, -1, 0, 1), TOWER[1], (4, -3, 5, -4, 3, 5)]]
        for _ in range(10):
            three = apart_lot(CHANCE, POOL, 3)
            fours += [three + (rod,) for rod in POOL[::7] + list(three)]
        for four in fours + [tuple(led_rod(GREAT, rod) for rod in four) for four in fours[::8]]:
            word = "of ring" if in_ring(*four) else "not of ring"
            self.assertEqual(self.check_pair(certify_ring(*four), word, *four), ())
            words.add(word)
        self.assertEqual(words, {"of ring", "not of ring"})

    def test_off(self):
        words = set()
        threes = [TOWER] + [apart_lot(CHANCE, POOL, 3) for _ in range(8)]
        threes.append(tuple(led_rod(GREAT, rod) for rod in TOWER))
        for three in threes:
            for point in ((1, 0, 0, 0), (1, 1, 0, 0), (3, 5, -7, 2), (1, 20, 30, -40)):
                for fraction in ((0, 1), (1, 1), (10, 9), (1, 100), (999, 2)):
                    near = not keeps_off(*three, point, fraction)
                    word = "comes near" if near else "keeps off"
                    paper = self.check_pair(certify_off(*three, point, fraction), word, *three, point, fraction)
                    self.assertIs(paper == (), not near)
                    words.add(word)
        self.assertEqual(words, {"keeps off", "comes near"})

    def test_kinds(self):
        kinds = set()
        surfaces = [WAIST, (0, 0, 0, 1, 0, -1, 0, 0, 0, 0), (1, 0, 0, 0, -1, 0, 0, -1, 0, -1), (1,) + (0,) * 9,
                    (1, 0, 0, 0, 1, 0, 0, 1, 0, 1), (0, 0, 0, 1, -1, 0, 0, -1, 0, 0), (1, 0, 0, 0, 1, 0, 0, 1, 0, -1),
                    (0, 0, 0, 0, 1, 0, 0, 1, 0, -1), (1, 0, 0, 0, -1, 0, 0, -1, 0, 0), (0, 0, 0, 0, 1, 0, 0, -2, 0, 0),
                    (0, 0, 0, 0, 1, 0, 0, 1, 0, 1), (0, 0, 0, 0, 1, 0, 0, 1, 0, 0), surface_of(*GREAT_POOL[25:28])]
        for surface in surfaces:
            kind = surface_kind(surface)
            self.assertEqual(self.check_pair(certify_kind(surface), "kind", surface, kind), ())
            kinds.add(kind)
        self.assertEqual(len(kinds), 12)

    def test_loose(self):
        words = set()
        for lot in self.lots():
            word = "loose" if freedom(lot) else "fast"
            paper = self.check_pair(certify_loose(lot), word, lot)
            self.assertIs(paper == (), word == "fast")
            words.add(word)
        self.assertEqual(words, {"loose", "fast"})

    def test_borne(self):
        words = set()
        for lot in self.lots() + [CORNER + (SLANT,), (ACROSS, ACROSS), CORNER + (SLANT, SLANT, ACROSS)]:
            for screw in (ACROSS, AUGER, (1, 2, 0, 0, 0, 0), (1, 2, 3, 4, 5, 6), lot[-1], FAR, (1, 0, 0, HUGE, 0, 0)):
                word = "borne" if is_borne(lot, screw) else "not borne"
                self.check_pair(certify_borne(lot, screw), word, lot, screw)
                words.add((word, len(lot) > 6 - freedom(lot)))
        self.assertEqual(words, {("borne", True), ("borne", False), ("not borne", True), ("not borne", False)})

    def test_alike(self):
        sorts = set()
        pairs = [(APART, LED), (APART, PARTED), (HANGING, SLID), (SLID, HANGING), (APART, APART[::-1])]
        for many in range(3, 9):
            for _ in range(3):
                lot = apart_lot(CHANCE, POOL[:25], many)
                pairs += [(lot, lot[::-1]), (lot, apart_lot(CHANCE, POOL[:25], many))]
                pairs += [(lot, tuple(lead(table, rod) for rod in lot))
                          for lead in (led_rod, turned_rod) for table in (MAPS[2], MAPS[6], GREAT)]
        for lot, other in pairs:
            if are_alike(lot, other):
                paper = self.check_pair(certify_alike(lot, other), "alike", lot, other)
                self.assertEqual(paper, factors(lot, other))
                sorts.add("alike")
            else:
                self.check_pair(certify_alike(lot, other), "unlike", lot, other)
                sorts.add("round" if parting_round(lot, other) else "ties")
        self.assertEqual(sorts, {"alike", "round", "ties"})

    def test_sixes(self):
        for rods, others in SIXES + [GREAT_SIX, led_six(MAPS[4], FIRST_SIX), FIRST_SIX[::-1]]:
            self.assertEqual(self.check_pair(certify_six(rods, others), "six", rods, others), ())

    def test_cubics(self):
        words = set()
        for six in SIXES[:2] + [GREAT_SIX]:
            cubic = cubic_through(*six)
            for rod in all_rods(*six) + (ALONG, HIGH, MAST, FAR, GREAT_POOL[3]):
                word = "on cubic" if has_rod(cubic, rod) else "off cubic"
                paper = self.check_pair(certify_cubic(cubic, rod), word, cubic, rod)
                self.assertIs(paper == (), word == "on cubic")
                words.add(word)
        # Where some of a rod's first points are on the cubic.
        for cubic in ((0, 1) + (0,) * 18, (0,) * 4 + (1,) + (0,) * 15, (0, 1, 0, 0, -1) + (0,) * 15,
                      (0, 1, 0, 0, 1) + (0,) * 15, (0,) * 10 + (1,) + (0,) * 9, (0, 1) + (0,) * 8 + (-1,) + (0,) * 9):
            self.check_pair(certify_cubic(cubic, ACROSS), "off cubic", cubic, ACROSS)
        self.assertEqual(words, {"on cubic", "off cubic"})

    def test_stars(self):
        many = set()
        for rods, others in SIXES + [led_six(MAPS[5], FIRST_SIX), led_six(GREAT, FIRST_SIX)]:
            pairs = certify_stars(rods, others)
            self.assertIs(pairs.__class__, tuple)
            self.assertEqual([claim[3] for claim, _ in pairs], list(stars(rods, others)))
            for pair, star in zip(pairs, stars(rods, others)):
                self.assertEqual(self.check_pair(pair, "star", rods, others, star), ())
            many.add(len(pairs))
        self.assertLessEqual({0, 1}, many)

    def test_ones(self):
        for rods, others in [FIRST_SIX, SIXES[1], GREAT_SIX]:
            whole_lot = all_rods(rods, others)
            for index in range(27):
                pair = certify_one(rods, others, index)
                self.assertEqual(self.check_pair(pair, "one of all", rods, others, whole_lot[index]), ())

    def test_gaps(self):
        for pool in (POOL, GREAT_POOL):
            near = [rod for rod in pool if any(rod[:3])]
            for rod in near[::2]:
                for other in near[::5] + [rod]:
                    pair = certify_gap(rod, other)
                    self.assertEqual(self.check_pair(pair, "gap", rod, other, gap(rod, other)), ())

    def test_rigid(self):
        tables = [PLAIN, TURN, MAPS[1], MAPS[2], back_table(TURN), followed(TURN, MAPS[2])]
        for table in tables + MAPS + [GREAT, TALL]:
            if is_rigid(table):
                self.assertEqual(self.check_pair(certify_rigid(table), "rigid", table), ())
            else:
                with self.assertRaises(NotRigid) as caught:
                    certify_rigid(table)
                self.assertEqual(vars(caught.exception), {})

    def test_parts_are_as_they_were_passed(self):
        rods, others = FIRST_SIX
        point, fraction = (1, 0, 0, 0), (10, 9)
        for pair, parts in (
            (certify_meeting(ACROSS, HIGH), (ACROSS, HIGH)), (certify_meeters(FOUR), (FOUR,)),
            (certify_all_meet(FOUR, MAST), (FOUR, MAST)),
            (certify_off(*TOWER, point, fraction), TOWER + (point, fraction)),
            (certify_borne(CORNER, AUGER), (CORNER, AUGER)), (certify_alike(APART, LED), (APART, LED)),
            (certify_six(rods, others), (rods, others)), (certify_cubic(BODY, ALONG), (BODY, ALONG)),
            (certify_one(rods, others, 3), (rods, others)), (certify_rigid(TURN), (TURN,)),
            (certify_loose(FOUR), (FOUR,)),
        ):
            for told, part in zip(pair[0][1:], parts):
                self.assertIs(told, part)
        # The first one of the same rods, and what is told of it.
        self.assertEqual(certify_meeting(ACROSS, ALONG), (("meet", ACROSS, ALONG), (1, 0, 0, 0)))
        self.assertEqual(certify_hand(ACROSS, HIGH, MAST), (("hand", ACROSS, HIGH, MAST, 1), ()))
        self.assertEqual(certify_gap(ACROSS, HIGH), (("gap", ACROSS, HIGH, (1, 1)), ()))
        self.assertEqual(certify_stars(rods, others), ((("star", rods, others, (1, 0, -4, 4)), ()),))

    def test_tables_of_great_numbers(self):
        five = PLAIN + ((1, 1, 1, 1),)
        table = five_to_five(five,
                             ((1, HUGE, 0, 0), (HUGE, 1, 3, 0), (0, 1, HUGE, 2), (1, 2, 3, HUGE),
                              (5, HUGE, 7, HUGE + 1)))
        lot = tuple(led_rod(table, rod) for rod in FOUR)
        self.check_pair(certify_all_meet(lot, led_rod(table, MAST)), "passes", lot, led_rod(table, MAST))
        three = tuple(led_rod(table, rod) for rod in TOWER)
        near, limit = point_by(table, (1, 1, 0, 0)), (1, HUGE)
        self.check_pair(certify_off(*three, near, limit), "comes near", *three, near, limit)
        self.check_pair(certify_borne(lot, AUGER), "not borne", lot, AUGER)
        apart = tuple(led_rod(table, rod) for rod in APART)
        self.check_pair(certify_alike(apart, APART), "alike", apart, APART)


WRONG_APART = (InvalidLot, "index", wrong_apart(APART))
WRONG_OTHER = (InvalidLot, "index",
               wrong_apart(APART) + [(APART[:at], None) for at in (3, 4)] + [(APART + (FAR,), None)])
INDEX = (InvalidIndex, "given", kept(NO_WHOLES + [-1, 27, 28, -27, HUGE, -HUGE]))
THREE = [("rod", ROD, TOWER[0]), ("other", ROD, TOWER[1]), ("third", ROD, TOWER[2])]
SIX_PARTS = [("rods", SIX, FIRST_SIX[0]), ("others", SIX, FIRST_SIX[1])]
CALLS = [
    (certify_meeting, [("rod", ROD, ACROSS), ("other", ROD, HIGH)]),
    (certify_hand, THREE),
    (certify_meeters, [("lot", LOT, FOUR)]),
    (certify_all_meet, [("lot", LOT, FOUR), ("rod", ROD, MAST)]),
    (certify_ring, THREE + [("fourth", ROD, ACROSS)]),
    (certify_off, THREE + [("point", POINT, (1, 0, 0, 0)), ("fraction", FRACTION, (10, 9))]),
    (certify_kind, [("surface", SURFACE, WAIST)]),
    (certify_loose, [("lot", LOT, FOUR)]),
    (certify_borne, [("lot", LOT, FOUR), ("screw", SCREW, AUGER)]),
    (certify_alike, [("lot", WRONG_APART, APART), ("other", WRONG_OTHER, LED)]),
    (certify_six, SIX_PARTS),
    (certify_cubic, [("cubic", CUBIC, BODY), ("rod", ROD, ALONG)]),
    (certify_stars, SIX_PARTS),
    (certify_one, SIX_PARTS + [("index", INDEX, 5)]),
    (certify_gap, [("rod", ROD, ACROSS), ("other", ROD, HIGH)]),
    (certify_rigid, [("table", TABLE, TURN)]),
]


class Errors(ErrorChecks, unittest.TestCase):
    def test_by_name(self):
        self.check_by_name(CALLS)

    def test_each_parameter(self):
        self.check_each_parameter(CALLS)

    def test_the_first_of_two_wrong_ones(self):
        self.check_first_of_two(CALLS)

    def test_what_is_told_last(self):
        met = [("rod", ROD, ACROSS), ("other", ROD, ALONG), ("third", ROD, HIGH)]
        away = [("rod", ROD, ACROSS), ("other", ROD, FAR)]
        point, fraction = ("point", POINT, (1, 0, 0, 0)), ("fraction", FRACTION, (1, 1))
        distant = ("point", POINT, (0, 1, 0, 0))
        same = [("rods", SIX, FIRST_SIX[0]), ("others", SIX, FIRST_SIX[0])]
        self.check_ahead_of_last([
            (certify_hand, met, Meeting), (certify_ring, met + [("fourth", ROD, MAST)], Meeting),
            (certify_off, met + [point, fraction], Meeting), (certify_off, met + [distant, fraction], Meeting),
            (certify_off, THREE + [distant, fraction], Far), (certify_gap, away, Far),
            (certify_gap, [("rod", ROD, FAR), ("other", ROD, FAR)], Far),
            (certify_all_meet, [("lot", LOT, UNTOLD), ("rod", ROD, MAST)], NotTold),
            (certify_six, same, NotSix), (certify_stars, same, NotSix),
            (certify_one, same + [("index", INDEX, 26)], NotSix), (certify_one, same + [("index", INDEX, 0)], NotSix),
            (certify_rigid, [("table", TABLE, TALL)], NotRigid),
        ])

    def test_rods_that_hang_together(self):
        # What borne does not tell is certified.
        pair = certify_borne(CORNER + (SLANT,), ACROSS)
        self.assertIs(accepts(*pair), True)
        self.assertEqual(pair[0][0], "borne")
        with self.assertRaises(NotJustOne):
            from stringrods.legs import borne
            borne(CORNER + (SLANT,), ACROSS)

    def test_lots_of_low_rank(self):
        # What tables_between does not tell is certified as well.
        self.assertTrue(all_apart(HANGING))
        self.assertIs(accepts(*certify_alike(HANGING, HANGING)), True)

    def test_defined_in_their_file(self):
        self.check_defined(certificates, [call.__name__ for call, _ in CALLS])
        self.assertEqual(len(CALLS), 16)


if __name__ == "__main__":
    unittest.main()
