"""What one module tells agrees with what the others tell."""

import inspect
import random
import unittest
from importlib import import_module
from itertools import combinations

from samples import PLAIN
from shapes import (
    ACROSS, ALONG, FIRST_SIX, MAPS, MIRROR, SHIFT, SIXES, SMALL, TOWER, UPRIGHT, all_apart, apart_lot, joined,
    led_rod, picked_lots, pool_by, turned_rod,
)
from stringrods.alikes import are_alike, factors, tables_between
from stringrods.certificates import (
    certify_alike, certify_all_meet, certify_gap, certify_hand, certify_meeters, certify_meeting, certify_off,
    certify_ring, certify_six,
)
from stringrods.checker import accepts
from stringrods.consoles import Console
from stringrods.cubics import all_rods, cubic_through, has_rod, stars, tangent_plane, three_planes
from stringrods.errors import Broken, Far, InvalidLot, RodError
from stringrods.gaps import foot, gap, is_parallel, nearest, point_gap, rod_gap, square_rod
from stringrods.legs import borne, freedom, is_borne, is_loose, loose_screws, needless_legs, ties
from stringrods.lots import all_meet, any_meeter, meeters_count, passing_meeter, rank, told_meeters
from stringrods.rings import cross_at, crossing_three, in_ring, keeps_off, meets_all, near_rod, ring_at, ring_rod
from stringrods.rods import do_meet, hand, in_plane, meeting_plane, meeting_point, on_rod, plane_with, product
from stringrods.screws import (
    axis, flats_count, in_net, is_flat, net_of, pitch, pole_plane, screw_product, told_flats, turned_rod as turned_by,
)
from stringrods.sixes import are_six, double_six
from stringrods.spaces import join, lies_in
from stringrods.surfaces import (
    has_rod_on, points_on, rods_at, surface_at, surface_kind, surface_of, tangent, told_points, touches,
)
from stringrods.tables import (
    back_table, five_to_five, followed, is_rigid, keeps_hands, plane_by, point_by, rod_by, screw_by,
)
from stringrods.workshops import Workshop

CHANCE = random.Random(2)
POOL = pool_by(CHANCE, None, 30)
THREES = [TOWER] + [apart_lot(CHANCE, POOL + SMALL[::5], 3) for _ in range(6)]
FOURS = [tuple(CHANCE.choice(POOL + SMALL[::3]) for _ in range(4)) for _ in range(40)]
RIGID = ((3, 0, 0, 0), (1, 1, 2, 2), (0, 2, 1, -2), (-5, 2, -2, 1))

# The interface: what is defined in each file.
INTERFACE = {
    "spaces": "is_point is_plane lies_in join cut",
    "rods": "is_rod product do_meet on_rod in_plane plane_with point_in meeting_point meeting_plane hand",
    "lots": "rank meeters_count told_meeters any_meeter all_meet passing_meeter",
    "rings": "in_ring meets_all ring_at cross_at ring_rod crossing_three keeps_off near_rod",
    "surfaces": "is_surface surface_of surface_at surface_kind has_rod_on tangent touches rods_at section points_on "
                "told_points center is_round round_axis",
    "gaps": "gap is_parallel slant square_rod nearest foot rod_gap point_gap plane_gap",
    "screws": "is_screw screw_product is_flat in_net pole_plane pole turned_rod pitch axis net_of flats_count "
              "told_flats",
    "legs": "freedom loose_screws is_loose is_borne borne ties needless_legs",
    "tables": "is_table point_by plane_by rod_by screw_by followed back_table keeps_hands is_rigid five_to_five",
    "alikes": "factors are_alike parting_round parting_ties tables_between",
    "sixes": "double_six are_six",
    "cubics": "is_cubic cubic_at has_rod tangent_plane cubic_through all_rods three_planes six_pairs stars",
    "workshops": "Workshop", "consoles": "Console", "checker": "accepts",
    "certificates": "certify_meeting certify_hand certify_meeters certify_all_meet certify_ring certify_off "
                    "certify_kind certify_loose certify_borne certify_alike certify_six certify_cubic certify_stars "
                    "certify_one certify_gap certify_rigid",
}


class Interface(unittest.TestCase):
    def test_each_name_is_defined_in_its_file(self):
        for file, names in INTERFACE.items():
            module = import_module("stringrods." + file)
            for name in names.split():
                self.assertEqual(getattr(module, name).__module__, module.__name__)
                self.assertEqual(getattr(module, name).__name__, name)

    def test_the_methods_of_classes_and_their_parameters(self):
        told = {name: list(inspect.signature(part).parameters)[1:] for name, part in vars(Workshop).items()
                if inspect.isfunction(part) and not name.startswith("_")}
        self.assertEqual(told, {
            "put": ["name", "rod"], "forget": ["name"], "move": ["name", "table"], "wish": ["wish"], "lift": ["index"],
            "named": ["name"], "undo": [], "trial": [], "tried": ["action"],
        })
        self.assertEqual([name for name, part in vars(Workshop).items() if isinstance(part, property)],
                         ["names", "wishes"])
        self.assertEqual(list(inspect.signature(Workshop).parameters), [])
        self.assertEqual(list(inspect.signature(Console).parameters), ["shop"])
        self.assertEqual(list(inspect.signature(Console.say).parameters), ["self", "line"])
        self.assertEqual(list(inspect.signature(accepts).parameters), ["claim", "paper"])


class MeetersAndRings(unittest.TestCase):
    def test_meeters_of_three_and_one_more_are_those_through_points_of_the_surface(self):
        counts = set()
        for three in THREES:
            surface = surface_of(*three)
            for rod in POOL[:8] + SMALL[::11]:
                if has_rod_on(surface, rod):
                    continue
                lot = three + (rod,)
                self.assertEqual(meeters_count(lot), points_on(surface, rod))
                through = [cross_at(*three, point) for point in told_points(surface, rod)]
                self.assertEqual(told_meeters(lot), tuple(sorted(through)))
                counts.add(meeters_count(lot))
        self.assertEqual(counts, {0, 1, 2})

    def test_rings_are_what_all_meeters_of_three_meet(self):
        for three in THREES:
            surface = surface_of(*three)
            cross = crossing_three(*three)
            for rod in SMALL[::6] + list(three) + list(cross) + [ring_rod(*three, 2, 3)]:
                ring, meets = in_ring(*three, rod), meets_all(*three, rod)
                self.assertIs(ring, all_meet(three, rod))
                self.assertIs(meets, in_ring(*cross, rod))
                self.assertIs(meets, is_loose(three, rod))
                self.assertIs(ring, is_borne(three, rod))
                self.assertIs(ring or meets, has_rod_on(surface, rod))
                self.assertEqual(passing_meeter(three, rod) is None, ring)
            self.assertEqual(surface_of(*cross), surface)
            for number, turn in ((0, 1), (1, 0), (3, -2), (-1, 5)):
                rod = ring_rod(*three, number, turn)
                for other in cross:
                    point = meeting_point(rod, other)
                    self.assertEqual(rods_at(surface, point), tuple(sorted((rod, other))))
                    self.assertEqual((ring_at(*three, point), cross_at(*three, point)), (rod, other))
                    self.assertEqual(tangent(surface, point), meeting_plane(rod, other))
                    self.assertIs(touches(surface, meeting_plane(rod, other)), True)

    def test_what_meets_all_and_what_passes(self):
        for lot in FOURS:
            told = told_meeters(lot)
            one = any_meeter(lot)
            if one is not None:
                self.assertTrue(all(do_meet(one, rod) for rod in lot))
            for rod in POOL[:5] + [lot[0]]:
                passing = passing_meeter(lot, rod)
                if told is not None and len(told) == meeters_count(lot):
                    self.assertIs(all_meet(lot, rod), all(do_meet(rod, each) for each in told))
                    self.assertEqual(passing is None, all_meet(lot, rod))
                if passing is not None:
                    self.assertIs(all_meet(lot, rod), False)
                    self.assertTrue(is_loose(lot, passing) and not do_meet(passing, rod))

    def test_keeping_off_and_gaps(self):
        for three in THREES:
            for point in ((1, 0, 0, 0), (2, 3, -5, 1)):
                for fraction in ((1, 1), (7, 3), (40, 1)):
                    near = near_rod(*three, point, fraction)
                    self.assertIs(near is None, keeps_off(*three, point, fraction))
                    for number, turn in ((0, 1), (1, 0), (1, 1), (1, -1), (2, 1), (-3, 1)):
                        rod = ring_rod(*three, number, turn)
                        if near is None and any(rod[:3]):
                            number, part = rod_gap(rod, point)
                            self.assertGreaterEqual(number * fraction[1], fraction[0] * part)
                    if near is not None:
                        told = rod_gap(near, point)
                        self.assertLess(told[0] * fraction[1], fraction[0] * told[1])
                        self.assertEqual(told, point_gap(point, foot(near, point)))


class NetsAndLegs(unittest.TestCase):
    def test_flats_of_two_loose_screws_are_meeters(self):
        counts = set()
        for lot in FOURS + picked_lots(None, 4, 4, 10, 372):
            loose = loose_screws(lot)
            self.assertEqual(freedom(lot), len(loose))
            self.assertEqual(freedom(lot), 6 - rank(lot))
            if len(loose) == 2:
                self.assertEqual(flats_count(*loose), meeters_count(lot))
                self.assertEqual(told_flats(*loose), told_meeters(lot))
                counts.add(meeters_count(lot))
        self.assertLessEqual({0, 2}, counts)

    def test_one_net(self):
        for meets in ((0, 0, 1, 0, 0, 1), ACROSS, (1, 2, 3, 4, 5, 6)):
            for lot in picked_lots(meets, 5, 6, 2, 373):
                net = net_of(lot)
                self.assertEqual((net, loose_screws(lot)), (meets, (meets,)))
                self.assertTrue(all(in_net(net, rod) for rod in lot))
                self.assertEqual(told_meeters(lot), (net,) if is_flat(net) else ())
                if not is_flat(net):
                    # Turned by it its rods stay, and it leads them to one another but for a map to planes.
                    self.assertEqual([turned_by(net, rod) for rod in lot], list(lot))
                    planes = tables_between(lot, lot)[1]
                    for point in ((1, 0, 0, 0), (1, 2, 3, 4), (0, 1, 1, 0)):
                        self.assertEqual(pole_plane(net, point), point_by(planes, point))
                if any(net[:3]):
                    line = axis(net)
                    self.assertEqual(pitch(net)[0] == 0, is_flat(net))
                    self.assertEqual(line[:3] == net[:3] or pitch(net)[1] > 1, True)

    def test_needless_legs_and_ties(self):
        for lot in picked_lots(ACROSS, 4, 6, 2, 374) + picked_lots(None, 6, 8, 2, 375) + FOURS[:10]:
            held = [any(tie[at] for tie in ties(lot)) for at in range(len(lot))]
            self.assertEqual(needless_legs(lot), tuple(at for at in range(len(lot)) if held[at]))
            for at in needless_legs(lot):
                self.assertIs(is_borne(lot[:at] + lot[at + 1:], lot[at]), True)
            if not ties(lot):
                for at, rod in enumerate(lot):
                    told = [(0, 1)] * len(lot)
                    told[at] = (1, 1)
                    self.assertEqual(borne(lot, rod), tuple(told))


class Led(unittest.TestCase):
    def test_meeters_rings_and_legs(self):
        for table in MAPS + [RIGID]:
            for lot in FOURS[:12] + [TOWER + (ACROSS,)]:
                led = tuple(rod_by(table, rod) for rod in lot)
                self.assertEqual((rank(led), meeters_count(led), freedom(led)),
                                 (rank(lot), meeters_count(lot), freedom(lot)))
                told = told_meeters(lot)
                self.assertEqual(told_meeters(led),
                                 None if told is None else tuple(sorted(rod_by(table, rod) for rod in told)))
                for rod in POOL[:4]:
                    self.assertIs(all_meet(led, rod_by(table, rod)), all_meet(lot, rod))
                    self.assertIs(is_borne(led, rod_by(table, rod)), is_borne(lot, rod))
                for screw in loose_screws(lot):
                    self.assertIs(is_loose(led, screw_by(table, screw)), True)
                self.assertEqual(needless_legs(led), needless_legs(lot))

    def test_surfaces(self):
        for table in MAPS + [RIGID]:
            for three in THREES[:4]:
                led = tuple(rod_by(table, rod) for rod in three)
                surface, there = surface_of(*three), surface_of(*led)
                for point in ((1, 0, 0, 0), (1, 1, 0, 0), (0, 1, 2, 3),
                              meeting_point(three[0], crossing_three(*three)[0])):
                    on_it = surface_at(surface, point) == 0
                    self.assertIs(surface_at(there, point_by(table, point)) == 0, on_it)
                    if on_it:
                        self.assertEqual(tangent(there, point_by(table, point)),
                                         plane_by(table, tangent(surface, point)))
                if plane_by(table, (1, 0, 0, 0)) == (1, 0, 0, 0):
                    self.assertEqual(surface_kind(there), surface_kind(surface))
                self.assertEqual(ring_rod(*led, 0, 1), led[0])
                self.assertIs(in_ring(*led, rod_by(table, ring_rod(*three, 2, -3))), True)

    def test_hands_and_alike_lots(self):
        for table in MAPS + [MIRROR, RIGID]:
            for three in THREES:
                led = tuple(rod_by(table, rod) for rod in three)
                self.assertIs(hand(*led) == hand(*three), keeps_hands(table))
                self.assertIs(factors(three, led)[0][0] > 0, keeps_hands(table))
                self.assertIs(are_alike(three, led), True)

    def test_five_points_and_tables_between(self):
        rods = FIRST_SIX[0]
        five = PLAIN + ((1, 1, 1, 1),)
        for table in MAPS:
            told = tables_between(rods, tuple(rod_by(table, rod) for rod in rods))
            self.assertEqual(told, (five_to_five(five, tuple(point_by(table, point) for point in five)), None))
            back = tables_between(tuple(rod_by(table, rod) for rod in rods), rods)[0]
            self.assertEqual(back, back_table(table))
            self.assertEqual(followed(table, back), PLAIN)

    def test_two_maps_to_planes_behind_one_another_lead_to_points(self):
        lot = FIRST_SIX[0]
        once = tuple(turned_rod(MAPS[4], rod) for rod in lot)
        twice = tuple(turned_rod(MAPS[5], rod) for rod in once)
        points, planes = tables_between(lot, twice)
        self.assertIsNone(planes)
        self.assertEqual(tuple(rod_by(points, rod) for rod in lot), twice)

    def test_gaps_by_rigid_tables(self):
        self.assertIs(is_rigid(RIGID), True)
        for rod in POOL[:8]:
            for other in POOL[8:14]:
                led = rod_by(RIGID, rod), rod_by(RIGID, other)
                self.assertEqual(gap(*led), gap(rod, other))
                if not is_parallel(rod, other):
                    self.assertEqual(square_rod(*led), rod_by(RIGID, square_rod(rod, other)))
                    ends = tuple(point_by(RIGID, point) for point in nearest(rod, other))
                    self.assertEqual(nearest(*led), ends)
                    self.assertEqual(point_gap(*ends), gap(rod, other))

    def test_claims_led_by_tables_are_so(self):
        for table in (MAPS[4], MAPS[6], SHIFT, MIRROR):
            for three in THREES[:4]:
                led = [rod_by(table, rod) for rod in three]
                for pair in (certify_meeting(*led[:2]), certify_hand(*led), certify_meeters(tuple(led)),
                             certify_ring(*led, rod_by(table, ACROSS)), certify_off(*led, (1, 0, 0, 0), (1, 1)),
                             certify_alike(three, tuple(led))):
                    self.assertIs(accepts(*pair), True)
                first = certify_meeting(*three[:2])
                self.assertEqual(certify_meeting(*led[:2])[0][0], first[0][0])
                self.assertEqual(certify_ring(*led, rod_by(table, ACROSS))[0][0], certify_ring(*three, ACROSS)[0][0])


class SixesAndCubics(unittest.TestCase):
    def test_the_others_are_meeters_and_nets(self):
        for rods, others in SIXES:
            for i, j in combinations(range(6), 2):
                four = tuple(rods[at] for at in range(6) if at not in (i, j))
                self.assertEqual(told_meeters(four), tuple(sorted((others[i], others[j]))))
                self.assertEqual(meeters_count(four), 2)
                self.assertIs(all_meet(four, rods[i]), False)
                # All meeters of the four meet the c of both.
                between = all_rods(rods, others)[12 + list(combinations(range(6), 2)).index((i, j))]
                self.assertIs(all_meet(four, between), True)
                self.assertTrue(do_meet(between, others[i]) and do_meet(between, others[j]))
            for at in range(6):
                five = rods[:at] + rods[at + 1:]
                self.assertEqual((net_of(five), told_meeters(five)), (others[at], (others[at],)))
            self.assertEqual((freedom(rods), freedom(others)), (0, 0))
            self.assertTrue(all_apart(rods) and all_apart(others))

    def test_halves_that_are_alike(self):
        # The turn that exchanges the halves (Schur): both have factors, with a map to planes.
        for rods, others in SIXES:
            points, planes = tables_between(rods, others)
            self.assertIsNone(points)
            self.assertEqual(tuple(turned_rod(planes, rod) for rod in rods), others)
            self.assertEqual(tuple(turned_rod(planes, rod) for rod in others), rods)
            self.assertIs(accepts(*certify_alike(rods, others)), True)

    def test_rods_of_one_ring_through_a_cubic(self):
        # The rods that meet three of a half: a ring, and of the cubic just three of the other half are in it.
        rods, others = FIRST_SIX
        whole_lot = all_rods(rods, others)
        for three in combinations(range(6), 3):
            told = [at for at in range(27) if meets_all(*[rods[at] for at in three], whole_lot[at])]
            self.assertEqual(told, [6 + at for at in range(6) if at not in three])

    def test_tangents_and_planes(self):
        rods, others = SIXES[1]
        cubic, whole_lot = cubic_through(rods, others), all_rods(rods, others)
        for (i, j, k), plane in three_planes(rods, others):
            for one, two in ((i, j), (i, k), (j, k)):
                point = meeting_point(whole_lot[one], whole_lot[two])
                self.assertEqual(tangent_plane(cubic, point), plane)
                self.assertIs(lies_in(point, plane), True)
        for star in stars(rods, others):
            self.assertEqual(len([1 for rod in whole_lot if on_rod(star, rod)]), 3)
        for rod in whole_lot:
            self.assertIs(has_rod(cubic, rod), True)
            plane = plane_with(rod, (1, 2, 3, 5))
            self.assertIs(in_plane(rod, plane), True)

    def test_a_double_six_of_what_the_package_tells(self):
        # All five of one rod: through points of it, each through a point of its own.
        told = 0
        for _ in range(60):
            five = []
            while len(five) < 5:
                start = (1, CHANCE.randint(-5, 5), 0, 0)
                end = (1, CHANCE.randint(-3, 3), CHANCE.randint(-3, 3), CHANCE.randint(1, 3))
                five.append(join(start, end))
            try:
                six = double_six(ACROSS, tuple(five))
            except RodError:
                continue
            told += 1
            self.assertIs(are_six(*six), True)
            self.assertIs(accepts(*certify_six(*six)), True)
        self.assertGreater(told, 5)


class Workshops(unittest.TestCase):
    def test_wishes_and_what_functions_tell(self):
        shop = Workshop()
        console = Console(shop)
        for name, rod in zip("abcdef", FIRST_SIX[0]):
            shop.put(name, rod)
        for name, rod in zip("ghijkl", FIRST_SIX[1]):
            shop.put(name, rod)
        for one, two in combinations("abcdef", 2):
            shop.wish(("apart", one, two))
        for at, name in enumerate("ghijkl"):
            for other in "abcdef":
                shop.wish(("apart" if "abcdef"[at] == other else "meet", other, name))
        shop.wish(("count", tuple("abcd"), 2))
        shop.wish(("count", tuple("abcdef"), 0))
        self.assertEqual(console.say("count a b c d e"), "1")
        for one, two in (("a", "b"), ("c", "k"), ("l", "a")):
            self.assertEqual(console.say("product " + one + " " + two), str(product(shop.named(one), shop.named(two))))
        with self.assertRaises(Broken):
            shop.move("a", SHIFT)
        self.assertEqual(len(shop.wishes), 15 + 36 + 2)

    def test_all_moved_at_once_within_a_trial(self):
        # One by one wishes would break; without them, and wished again, all hold of what is led.
        shop = Workshop()
        for name, rod in zip("abc", TOWER):
            shop.put(name, rod)
        shop.wish(("count", ("a", "b", "c"), "endless"))

        def moved(held):
            wishes = held.wishes
            held.lift(0)
            for name in held.names:
                held.move(name, MAPS[5])
            for wish in wishes:
                held.wish(wish)
            return tuple(held.named(name) for name in "abc")

        self.assertEqual(shop.tried(moved), tuple(led_rod(MAPS[5], rod) for rod in TOWER))
        self.assertEqual(len(shop), 9)


class Errors(unittest.TestCase):
    def test_equal_calls(self):
        lot = FOURS[0]
        for call in (rank, meeters_count, told_meeters, any_meeter, loose_screws, ties, certify_meeters):
            self.assertEqual(call(lot), call(tuple(tuple(rod) for rod in lot)))

    def test_errors_of_the_same_argument_are_the_same(self):
        for call in (rank, meeters_count, freedom, ties, net_of, certify_meeters):
            for value, index in (((), 0), (None, None), ([ACROSS], None), ((ACROSS,) * 9, 8), ((ACROSS, None), 1)):
                with self.assertRaises(InvalidLot) as caught:
                    call(value)
                self.assertEqual(caught.exception.index, index)

    def test_what_is_told_ahead_of_last_ones(self):
        with self.assertRaises(Far):
            certify_gap(ACROSS, (0, 0, 0, 0, 0, 1))
        self.assertEqual(certify_all_meet((ACROSS, ALONG, UPRIGHT), ACROSS)[0][0], "all meet")
        self.assertEqual(joined((1, 0, 0, 0), (1, 1, 0, 0)), ACROSS)
        self.assertEqual(screw_product(ACROSS, (0, 0, 0, 1, 0, 0)), 1)


if __name__ == "__main__":
    unittest.main()
