"""Points 2 to 5 and 36, and the interface of stringrods/workshops.py."""

import random
import unittest
from unittest import mock

from samples import ANYTHING, HUGE, NO_FRACTIONS, NO_RODS, NO_SURFACES, NO_TABLES, PLAIN, Grumpy, nested
from shapes import ALONG, GREAT, MAPS, SHIFT, TALL, TOWER, UPRIGHT, pool_by
from shops import AHEAD, FAR, FOUR, GOOD_NAMES, HIGH, LEFT, NO_NAMES, UP, WAIST, built, state
from stringrods import workshops
from stringrods.errors import (
    Broken, InUse, InvalidIndex, InvalidName, InvalidRod, InvalidTable, InvalidWish, NothingToUndo, RodError,
    UnknownName,
)
from stringrods.gaps import gap
from stringrods.lots import meeters_count
from stringrods.rods import do_meet
from stringrods.surfaces import has_rod_on, surface_of
from stringrods.tables import rod_by
from stringrods.workshops import Workshop

class Checks(unittest.TestCase):
    def check_refused(self, shop, call, arguments, expected, attribute=None, value=None):
        """Check the error, by position and by name, and that nothing has changed."""
        before = state(shop)
        for positional in (True, False):
            with self.assertRaises(RodError) as caught:
                if positional:
                    call(*arguments.values())
                else:
                    call(**dict(reversed(arguments.items())))
            self.assertIs(caught.exception.__class__, expected, arguments)
            if attribute is None:
                self.assertEqual(vars(caught.exception), {})
            else:
                self.assertEqual(list(vars(caught.exception)), [attribute])
                self.assertIs(getattr(caught.exception, attribute), value)
        self.assertEqual(state(shop), before)


class Example(Checks):
    def test_the_interface(self):
        shop = Workshop()
        told = [shop.put("post", UP), shop.put("beam", LEFT), shop.wish(("apart", "post", "beam")),
                shop.wish(("count", ("post", "beam"), "endless")), shop.wish(("gap from", "beam", "post", (1, 1))),
                len(shop), shop.names]
        self.assertEqual(told, [None, None, None, None, None, 5, ("beam", "post")])
        self.check_refused(shop, shop.put, {"name": "beam", "rod": AHEAD}, Broken, "index", 0)
        self.check_refused(shop, shop.forget, {"name": "post"}, InUse, "index", 0)
        told = [shop.move("beam", SHIFT), shop.named("beam") == LEFT, shop.undo(), len(shop), "beam" in shop, 5 in shop]
        self.assertEqual(told, [None, True, None, 5, True, False])


class Names(Checks):
    def test_good_names(self):
        shop = Workshop()
        for many, name in enumerate(GOOD_NAMES):
            self.assertIs(name in shop, False)
            self.assertIsNone(shop.put(name, UP))
            self.assertIs(name in shop, True)
            self.assertEqual(shop.named(name), UP)
            self.assertEqual(len(shop), many + 1)
        self.assertEqual(shop.names, tuple(sorted(GOOD_NAMES)))
        self.assertIs(shop.names.__class__, tuple)

    def test_no_names(self):
        shop = built()
        for value in NO_NAMES:
            self.check_refused(shop, shop.put, {"name": value, "rod": UP}, InvalidName, "given", value)
            self.assertIs(value in shop, False)

    def test_unknown_names(self):
        shop = built()
        for value in NO_NAMES + ["posts", "pos", "a", "z" * 12]:
            for call in (shop.forget, shop.named):
                self.check_refused(shop, call, {"name": value}, UnknownName, "given", value)
            self.check_refused(shop, shop.move, {"name": value, "table": PLAIN}, UnknownName, "given", value)
            self.assertIs(value in shop, False)

    def test_in_with_anything(self):
        shop = Workshop()
        for value in ANYTHING + [shop, ("post",), "post"]:
            self.assertIs(value in shop, False)
        shop.put("post", UP)
        for value in ANYTHING + [shop, ("post",), "pos", UP]:
            self.assertIs(value in shop, False)
        self.assertIs("post" in shop, True)


class Puts(Checks):
    def test_a_new_name_and_another_rod_in_its_place(self):
        shop = Workshop()
        self.assertEqual((shop.names, shop.wishes, len(shop)), ((), (), 0))
        shop.put("b", UP)
        shop.put("a", AHEAD)
        shop.put(rod=LEFT, name="b")
        self.assertEqual([shop.named("a"), shop.named(name="b"), shop.names, len(shop)], [AHEAD, LEFT, ("a", "b"), 3])
        shop.put("b", LEFT)
        self.assertEqual(len(shop), 4)
        for expected in ((LEFT, 3), (UP, 2)):
            shop.undo()
            self.assertEqual((shop.named("b"), len(shop)), expected)
        shop.undo()
        self.assertEqual((shop.names, "a" in shop), (("b",), False))
        shop.undo()
        self.assertEqual(state(shop), state(Workshop()))

    def test_wrong_rods(self):
        shop = built()
        for value in NO_RODS:
            self.check_refused(shop, shop.put, {"name": "post", "rod": value}, InvalidRod, "given", value)
        for name, rod in zip(NO_NAMES[::3], NO_RODS[::3]):
            self.check_refused(shop, shop.put, {"name": name, "rod": rod}, InvalidName, "given", name)

    def test_what_is_put_is_kept_as_it_was_passed(self):
        shop = Workshop()
        rod = tuple([1, HUGE, 0, 0, 0, 5])
        shop.put("a", rod)
        self.assertIs(shop.named("a"), rod)


class Moves(Checks):
    def test_led_by_tables(self):
        shop = Workshop()
        for many, table in enumerate(MAPS + [GREAT] + MAPS):
            shop.put("a", (1, 2, 3, 3, 0, -1))
            self.assertIsNone(shop.move("a", table))
            self.assertEqual(shop.named("a"), rod_by(table, (1, 2, 3, 3, 0, -1)))
            self.assertEqual(len(shop), 2 * many + 2)
        before = shop.named("a")
        shop.move(table=TALL, name="a")
        shop.move("a", PLAIN)
        shop.undo()
        shop.undo()
        self.assertEqual(shop.named("a"), before)

    def test_errors_in_their_order(self):
        shop = built()
        for value in NO_TABLES:
            self.check_refused(shop, shop.move, {"name": "post", "table": value}, InvalidTable, "given", value)
            self.check_refused(shop, shop.move, {"name": "none", "table": value}, UnknownName, "given", "none")
        # Moved up by one along the first axis the post still has the gap, but moved on along the second it has not.
        shop.move("post", SHIFT)
        aside = ((1, 0, 0, 0), (0, 1, 0, 0), (1, 0, 1, 0), (0, 0, 0, 1))
        self.check_refused(shop, shop.move, {"name": "post", "table": aside}, Broken, "index", 0)
        # The surface leaves the rod, or the rod the surface.
        self.check_refused(shop, shop.move, {"name": "round", "table": SHIFT}, Broken, "index", 2)


class Forgets(Checks):
    def test_what_no_wish_names(self):
        shop = built()
        self.assertIsNone(shop.forget("high"))
        self.assertEqual((shop.names, len(shop)), (("beam", "far", "post", "round"), 11))
        self.check_refused(shop, shop.named, {"name": "high"}, UnknownName, "given", "high")
        self.check_refused(shop, shop.forget, {"name": "high"}, UnknownName, "given", "high")
        shop.undo()
        self.assertEqual(shop.named("high"), HIGH)

    def test_the_first_wish_that_names_it(self):
        shop = built()
        for name, index in (("post", 0), ("beam", 0), ("far", 1), ("round", 2)):
            self.check_refused(shop, shop.forget, {"name": name}, InUse, "index", index)
        shop.lift(0)
        for name, index in (("post", 2), ("beam", 0), ("far", 0), ("round", 1)):
            self.check_refused(shop, shop.forget, {"name": name}, InUse, "index", index)
        shop.lift(1)
        shop.forget("round")
        # Not first in a wish, and within the names of a count.
        shop.wish(("count", ("beam", "beam", "high"), "endless"))
        self.check_refused(shop, shop.forget, {"name": "high"}, InUse, "index", 3)


def no_wishes():
    """What is no wish."""
    told = NO_RODS + [
        ["meet", "a", "b"], ("meet",), ("meet", "a"), ("meet", "a", "b", "b"), ("meets", "a", "b"), ("Meet", "a", "b"),
        ("apart", "a"), ("apart", "a", "b", ()), ("apart", ("a", "b")), ("on surface", "a"), ("on surface", WAIST, "a"),
        ("on surface", ("a",), WAIST), ("on surface", "a", "a", WAIST), ("onsurface", "a", WAIST), ("count", "a", 0),
        ("count", ("a",)), ("count", (), 0), ("count", ("a",) * 9, "endless"), ("count", ["a", "b"], 0),
        ("count", {"a"}, 0), ("count", ("a", "b"), 0, 0), ("count", ("a", "b", None), 0), ("count", "ab", 0),
        ("gap from", "a", "b"), ("gap from", "a", "b", 1), ("gap from", "a", "b", (1, 1), 0),
        ("gap from", "a", (1, 1), "b"),
        ("gap", "a", "b", (1, 1)), (("meet",), "a", "b"), (["meet"], "a", "b"), (b"meet", "a", "b"), (None, "a", "b"),
        (Grumpy(), "a", "b"), ("meet", Grumpy(), "b"), ("count", Grumpy(), 0), ("count", ("a",), Grumpy()), "meet a b",
        ("count", ("a", Grumpy()), 0), {"meet": ("a", "b")}, (0, "a", "b"), (True, "a", "b"), nested(14),
        ("", "a", "b"),
    ]
    told += [("count", ("a", "b"), value) for value in (
        -1, 3, 4, HUGE, True, False, None, "Endless", "", "0", "none", (0,), [0], (), nested(12))]
    told += [("gap from", "a", "b", value) for value in NO_FRACTIONS]
    told += [("on surface", "a", value) for value in NO_SURFACES]
    for name in NO_NAMES:
        told += [("meet", name, "b"), ("meet", "a", name), ("apart", "a", name), ("on surface", name, WAIST),
                 ("count", ("a", name), 0), ("gap from", name, "b", (1, 1)), ("gap from", "a", name, (0, 1))]
    return told


class Wishes(Checks):
    def test_no_wishes(self):
        shop = built()
        shop.put("a", UP)
        shop.put("b", AHEAD)
        before = state(shop)
        for value in no_wishes():
            with self.assertRaises(RodError) as caught:
                shop.wish(value)
            self.assertIs(caught.exception.__class__, InvalidWish, value)
            self.assertEqual(list(vars(caught.exception)), ["given"])
            self.assertIs(caught.exception.given, value)
        self.assertEqual(state(shop), before)
        for value in no_wishes()[::25]:
            self.check_refused(shop, shop.wish, {"wish": value}, InvalidWish, "given", value)

    def test_unknown_names(self):
        shop = built()
        for wish, name in (
            (("meet", "post", "nobody"), "nobody"), (("meet", "nobody", "noone"), "nobody"),
            (("apart", "noone", "nobody"), "noone"), (("on surface", "nobody", WAIST), "nobody"),
            (("count", ("post", "noone", "beam", "nobody"), 0), "noone"), (("gap from", "post", "x", (0, 1)), "x"),
            # Ahead of what would not hold.
            (("apart", "post", "nobody"), "nobody"), (("count", ("nobody",), 0), "nobody"),
        ):
            self.check_refused(shop, shop.wish, {"wish": wish}, UnknownName, "given", name)

    def test_of_each_sort(self):
        chance = random.Random(36)
        pool = pool_by(chance, None, 12) + list(TOWER) + [UP, AHEAD, LEFT, HIGH, FAR, ALONG]
        seen = {}
        for _ in range(500):
            rod, other, third, fourth = (chance.choice(pool) for _ in range(4))
            shop = Workshop()
            for name, each in zip("abcd", (rod, other, third, fourth)):
                shop.put(name, each)
            names = tuple(chance.choice("abcd") for _ in range(chance.randint(1, 8)))
            lot = tuple(shop.named(name) for name in names)
            three = chance.choice([TOWER, (TOWER[1], TOWER[0], TOWER[2])])
            near = any(rod[:3]) and any(other[:3])
            limit = chance.choice([(0, 1), (1, 1), (1, 7), (40, 3)])
            cases = [
                (("meet", "a", "b"), do_meet(rod, other)), (("apart", "a", "b"), not do_meet(rod, other)),
                (("meet", "c", "c"), True), (("apart", "d", "d"), False),
                (("on surface", "a", surface_of(*three)), has_rod_on(surface_of(*three), rod)),
                (("gap from", "a", "b", limit),
                 near and gap(rod, other)[0] * limit[1] >= limit[0] * gap(rod, other)[1]),
            ]
            cases += [(("count", names, count), meeters_count(lot) == count) for count in (0, 1, 2, "endless")]
            for wish, holds in cases:
                seen.setdefault((wish[0], wish[-1] if wish[0] == "count" else "", holds), 0)
                many = len(shop.wishes)
                if holds:
                    self.assertIsNone(shop.wish(wish))
                    self.assertIs(shop.wishes[many], wish)
                else:
                    with self.assertRaises(Broken) as caught:
                        shop.wish(wish)
                    self.assertEqual(caught.exception.index, many)
                    self.assertEqual(len(shop.wishes), many)
        expected = {(word, "", holds) for word in ("meet", "apart", "on surface", "gap from") for holds in (True,
                                                                                                            False)}
        expected |= {("count", count, False) for count in (0, 1, 2, "endless")}
        expected |= {("count", count, True) for count in (0, 2, "endless")}
        self.assertLessEqual(expected, set(seen))

    def test_one_twice(self):
        shop = Workshop()
        shop.put("a", UP)
        wish = ("meet", "a", "a")
        for many in range(1, 4):
            shop.wish(wish)
            self.assertEqual((shop.wishes, len(shop)), ((wish,) * many, many + 1))
        shop.lift(1)
        self.assertEqual(shop.wishes, (wish,) * 2)
        shop.undo()
        shop.undo()
        self.assertEqual(shop.wishes, (wish,) * 2)

    def test_one_name_twice(self):
        shop = Workshop()
        shop.put("a", UP)
        shop.put("f", FAR)
        for name in "af":
            shop.wish(("meet", name, name))
            shop.wish(("count", (name, name), "endless"))
            self.check_refused(shop, shop.wish, {"wish": ("apart", name, name)}, Broken, "index", len(shop.wishes))
        shop.wish(("gap from", "a", "a", (0, 1)))
        self.check_refused(shop, shop.wish, {"wish": ("gap from", "a", "a", (1, HUGE))}, Broken, "index", 5)
        self.check_refused(shop, shop.wish, {"wish": ("gap from", "f", "f", (0, 1))}, Broken, "index", 5)
        self.check_refused(shop, shop.wish, {"wish": ("gap from", "a", "f", (0, 1))}, Broken, "index", 5)

    def test_counts(self):
        touched = (UPRIGHT, (1, 0, 1, 0, 0, 0), (0, 1, 1, 0, -1, 1), (0, 1, -1, 0, -1, -1))
        free = (UPRIGHT, (1, 0, 1, -1, 0, 1), (0, 1, 1, 0, -1, 1), (1, 1, 2, -1, -1, 1))
        for lot, count in ((FOUR, 2), (touched, 1), (free, 0), (FOUR[:3], "endless"), (FOUR + FOUR, 2)):
            shop = Workshop()
            names = tuple("abcdefgh"[:len(lot)])
            for name, rod in zip(names, lot):
                shop.put(name, rod)
            for each in (0, 1, 2, "endless"):
                wish = ("count", names, each)
                if each == count:
                    self.assertIsNone(shop.wish(wish))
                else:
                    index = len(shop.wishes)
                    self.check_refused(shop, shop.wish, {"wish": wish}, Broken, "index", index)
            # Up to eight names, one of them several times.
            shop.wish(("count", (names * 8)[:8] if len(names) == 4 else names + names[:1] * (8 - len(names)), count))

    def test_gaps(self):
        shop = Workshop()
        shop.put("floor", AHEAD)
        shop.put("beam", (0, 2, 0, -3, 0, 0))
        self.assertEqual(gap(AHEAD, (0, 2, 0, -3, 0, 0)), (9, 4))
        shop.wish(("gap from", "floor", "beam", (9, 4)))
        shop.wish(("gap from", "beam", "floor", (9 * 10 ** 30 - 1, 4 * 10 ** 30)))
        above = ("gap from", "floor", "beam", (9 * 10 ** 30 + 1, 4 * 10 ** 30))
        self.check_refused(shop, shop.wish, {"wish": above}, Broken, "index", 2)
        # Parallel rods, and one that is far now.
        shop.put("beam", (1, 0, 0, 0, 0, -2))
        self.check_refused(shop, shop.put, {"name": "beam", "rod": (1, 0, 0, 0, 0, -1)}, Broken, "index", 0)
        self.check_refused(shop, shop.put, {"name": "beam", "rod": FAR}, Broken, "index", 0)
        self.check_refused(shop, shop.put, {"name": "floor", "rod": FAR}, Broken, "index", 0)

    def test_as_they_were_passed(self):
        shop = Workshop()
        shop.put("a", TOWER[0])
        wishes = [("meet", "a", "a"), ("on surface", "a", WAIST), ("count", ("a", "a"), "endless"),
                  ("gap from", "a", "a", (0, 1))]
        for wish in wishes:
            shop.wish(wish=wish)
        self.assertIs(shop.wishes.__class__, tuple)
        self.assertEqual(shop.wishes, tuple(wishes))
        self.assertTrue(all(one is two for one, two in zip(shop.wishes, wishes)))


class BrokenWishes(Checks):
    def test_the_first_one_that_would_not_hold(self):
        shop = built()
        # The beam through the origin: apart from the post no more, and no gap; the far rod is met still.
        self.check_refused(shop, shop.put, {"name": "beam", "rod": AHEAD}, Broken, "index", 0)
        self.check_refused(shop, shop.put, {"name": "beam", "rod": (0, 0, 1, -2, 0, 0)}, Broken, "index", 0)
        self.check_refused(shop, shop.put, {"name": "far", "rod": HIGH}, Broken, "index", 1)
        self.check_refused(shop, shop.put, {"name": "beam", "rod": (1, 0, 1, 2, 2, -2)}, Broken, "index", 1)
        self.check_refused(shop, shop.put, {"name": "round", "rod": UP}, Broken, "index", 2)
        self.check_refused(shop, shop.put, {"name": "beam", "rod": (2, 0, 0, 0, 0, -1)}, Broken, "index", 4)
        shop.lift(0)
        self.check_refused(shop, shop.put, {"name": "beam", "rod": (0, 0, 1, 0, -2, 0)}, Broken, "index", 0)
        self.check_refused(shop, shop.put, {"name": "beam", "rod": (0, 1, 0, 0, 0, 0)}, Broken, "index", 3)
        self.assertIsNone(shop.put("beam", (1, 0, 0, 0, 0, -7)))

    def test_they_hold_after_each_change(self):
        chance = random.Random(361)
        pool = pool_by(chance, None, 10) + [UP, AHEAD, LEFT, HIGH, FAR, ALONG]
        shop, done = Workshop(), 0
        for _ in range(900):
            name, other = chance.choice("abcd"), chance.choice("abcd")
            steps = [
                lambda: shop.put(name, chance.choice(pool)), lambda: shop.move(name, chance.choice(MAPS[:4])),
                lambda: shop.forget(name), lambda: shop.wish((chance.choice(["meet", "apart"]), name, other)),
                lambda: shop.wish(("count", (name, other), chance.choice([0, "endless"]))),
                lambda: shop.wish(("gap from", name, other, (chance.randint(0, 2), 1))), lambda: shop.lift(0),
                lambda: shop.undo(),
            ]
            before = (shop.names, shop.wishes, len(shop))
            try:
                chance.choice(steps)()
                done += 1
            except RodError:
                self.assertEqual((shop.names, shop.wishes, len(shop)), before)
            for wish in shop.wishes:
                self.assertTrue(self.holds(shop, wish), wish)
        self.assertGreater(done, 300)

    def holds(self, shop, wish):
        if wish[0] == "count":
            return meeters_count(tuple(shop.named(name) for name in wish[1])) == wish[2]
        rod, other = shop.named(wish[1]), shop.named(wish[2])
        if wish[0] == "gap from":
            return gap(rod, other)[0] * wish[3][1] >= wish[3][0] * gap(rod, other)[1]
        return do_meet(rod, other) == (wish[0] == "meet")


class Lifts(Checks):
    def test_each_index(self):
        wishes = built().wishes
        for index in range(5):
            shop = built()
            self.assertIsNone(shop.lift(index))
            self.assertEqual(shop.wishes, wishes[:index] + wishes[index + 1:])
            self.assertEqual(len(shop), 11)
            shop.undo()
            self.assertEqual(shop.wishes, wishes)
            self.assertEqual(state(shop), state(built()))

    def test_no_indexes(self):
        shop = built()
        for value in [each for each in ANYTHING if each.__class__ is not int] + [-1, -5, 5, 6, HUGE, -HUGE, "0", (0,)]:
            self.check_refused(shop, shop.lift, {"index": value}, InvalidIndex, "given", value)
        empty = Workshop()
        for value in (0, -1, 1, None, True):
            self.check_refused(empty, empty.lift, {"index": value}, InvalidIndex, "given", value)
        shop.lift(index=4)
        self.check_refused(shop, shop.lift, {"index": 4}, InvalidIndex, "given", 4)


class Undone(Checks):
    def test_back_to_the_beginning(self):
        shop = Workshop()
        steps = [
            lambda: shop.put("a", UP), lambda: shop.put("a", AHEAD), lambda: shop.put("a", AHEAD),
            lambda: shop.put("b", LEFT), lambda: shop.move("a", TALL), lambda: shop.move("b", PLAIN),
            lambda: shop.wish(("meet", "a", "b")), lambda: shop.wish(("meet", "a", "b")), lambda: shop.lift(0),
            lambda: shop.put("c", FAR), lambda: shop.forget("c"), lambda: shop.lift(0), lambda: shop.forget("a"),
            lambda: shop.forget("b"),
        ]
        told = [state(shop)]
        for many, step in enumerate(steps):
            self.assertIsNone(step())
            self.assertEqual(len(shop), many + 1)
            told.append(state(shop))
        for many in reversed(range(len(steps))):
            self.assertIsNone(shop.undo())
            self.assertEqual(len(shop), many)
            self.assertEqual(state(shop), told[many])
        self.check_refused(shop, shop.undo, {}, NothingToUndo)
        self.assertEqual(state(shop), state(Workshop()))

    def test_errors_are_no_changes(self):
        shop = Workshop()
        shop.put("a", UP)
        for call in (lambda: shop.put("a", None), lambda: shop.put("A", UP), lambda: shop.forget("b"),
                     lambda: shop.lift(0), lambda: shop.wish(("apart", "a", "a")), lambda: shop.move("a", None)):
            with self.assertRaises(RodError):
                call()
            self.assertEqual(len(shop), 1)
        shop.undo()
        with self.assertRaises(NothingToUndo):
            shop.undo()
        self.assertEqual((shop.names, len(shop)), ((), 0))

    def test_undone_and_done_again(self):
        shop = built()
        shop.undo()
        shop.put("new", UP)
        shop.undo()
        shop.wish(("gap from", "beam", "post", (1, 1)))
        self.assertEqual(state(shop), state(built()))


class Trials(Checks):
    def test_left_in_order(self):
        shop = built()
        with shop.trial() as held:
            self.assertIs(held, shop)
            held.put("new", UP)
            held.lift(0)
        self.assertEqual((len(shop), shop.named("new")), (12, UP))
        shop.undo()
        self.assertEqual((len(shop), len(shop.wishes), shop.named("new")), (11, 5, UP))
        shop.undo()
        self.assertEqual(state(shop), state(built()))

    def test_left_by_an_exception(self):
        class Own(Exception):
            pass

        for raised in (Own(), KeyError("x"), ZeroDivisionError(), ValueError(), KeyboardInterrupt(), SystemExit(2),
                       StopIteration(), GeneratorExit(), AssertionError(), InvalidRod(5), NothingToUndo()):
            shop = built()
            with self.assertRaises(BaseException) as caught:
                with shop.trial():
                    shop.put("new", UP)
                    shop.lift(0)
                    shop.undo()
                    shop.undo()
                    shop.undo()
                    shop.undo()
                    shop.put("other", AHEAD)
                    raise raised
            self.assertIs(caught.exception, raised)
            self.assertEqual(state(shop), state(built()))

    def test_left_by_an_error_of_its_own(self):
        shop = built()
        with self.assertRaises(Broken) as caught:
            with shop.trial():
                shop.put("new", UP)
                shop.put("beam", AHEAD)
        self.assertEqual(caught.exception.index, 0)
        self.assertEqual(state(shop), state(built()))
        # An error that is caught within the block does not end it.
        with shop.trial():
            shop.put("new", UP)
            with self.assertRaises(Broken):
                shop.put("beam", AHEAD)
        self.assertEqual((len(shop), "new" in shop), (11, True))

    def test_left_by_return_and_break(self):
        def leave(shop):
            with shop.trial():
                shop.put("one", UP)
                return 5

        shop = Workshop()
        self.assertEqual(leave(shop), 5)
        for at in range(3):
            with shop.trial():
                shop.put("two", UP)
                if at == 1:
                    break
        self.assertEqual((shop.names, len(shop)), (("one", "two"), 3))

    def test_a_call_alone_changes_nothing(self):
        shop = built()
        told = [shop.trial() for _ in range(3)]
        self.assertEqual(state(shop), state(built()))
        shop.put("new", UP)
        # What is put back is what was there when the block began.
        with self.assertRaises(KeyError):
            with told[0]:
                shop.put("late", UP)
                raise KeyError()
        self.assertEqual((len(shop), shop.names), (11, ("beam", "far", "high", "new", "post", "round")))
        self.assertTrue(all(told))

    def test_within_one_another(self):
        shop = built()
        with shop.trial():
            shop.put("one", UP)
            with self.assertRaises(KeyError):
                with shop.trial():
                    shop.put("two", UP)
                    with shop.trial():
                        shop.put("three", UP)
                    self.assertIn("three", shop)
                    raise KeyError()
            self.assertEqual((len(shop), "one" in shop, "two" in shop, "three" in shop), (11, True, False, False))
            shop.put("four", UP)
        self.assertEqual((len(shop), "one" in shop, "four" in shop), (12, True, True))
        with self.assertRaises(KeyError):
            with shop.trial():
                with shop.trial():
                    shop.put("five", UP)
                self.assertIn("five", shop)
                raise KeyError()
        self.assertEqual((len(shop), "five" in shop), (12, False))

    def test_undo_of_what_was_done_before_it(self):
        shop = built()
        with shop.trial():
            for _ in range(10):
                shop.undo()
            self.assertEqual(state(shop), state(Workshop()))
            with self.assertRaises(NothingToUndo):
                shop.undo()
            shop.put("new", UP)
        self.assertEqual((shop.names, len(shop)), (("new",), 1))
        shop = built()
        with self.assertRaises(NothingToUndo):
            with shop.trial():
                while True:
                    shop.undo()
        self.assertEqual(state(shop), state(built()))

    def test_two_workshops(self):
        one, two = built(), built()
        with self.assertRaises(KeyError):
            with one.trial():
                one.put("new", UP)
                two.put("new", UP)
                raise KeyError()
        self.assertEqual(("new" in one, "new" in two), (False, True))


class Tried(Checks):
    def test_what_returns(self):
        shop = built()
        value = object()

        def action(held):
            self.assertIs(held, shop)
            held.put("new", UP)
            held.put("new", AHEAD)
            return value

        self.assertIs(shop.tried(action), value)
        self.assertEqual((len(shop), shop.named("new")), (12, AHEAD))
        self.assertEqual(shop.tried(action=lambda held: len(held)), 12)
        self.assertIsNone(shop.tried(lambda held: None))
        self.assertIsNone(shop.tried(lambda held: held.undo()))
        self.assertEqual(len(shop), 11)

    def test_what_raises(self):
        shop = built()
        raised = LookupError("no")

        def action(held):
            held.put("new", UP)
            held.undo()
            held.undo()
            raise raised

        with self.assertRaises(LookupError) as caught:
            shop.tried(action)
        self.assertIs(caught.exception, raised)
        self.assertEqual(state(shop), state(built()))
        with self.assertRaises(Broken):
            shop.tried(lambda held: [held.put("new", UP), held.put("beam", AHEAD)])
        self.assertEqual(state(shop), state(built()))

    def test_within_one_another(self):
        shop = built()

        def inner(held):
            held.put("two", UP)
            raise KeyError()

        def outer(held):
            held.put("one", UP)
            with self.assertRaises(KeyError):
                held.tried(inner)
            return held.names

        self.assertEqual(shop.tried(outer), ("beam", "far", "high", "one", "post", "round"))


class Objects(unittest.TestCase):
    def test_equal_to_itself_alone(self):
        shop, other = Workshop(), Workshop()
        self.assertIs(shop == shop, True)
        self.assertIs(shop != shop, False)
        for value in [other, built(), shop.trial(), mock.ANY] + ANYTHING:
            self.assertIs(shop == value, False)
            self.assertIs(shop != value, True)
        trial = shop.trial()
        for value in [shop, shop.trial(), mock.ANY] + ANYTHING:
            self.assertIs(trial == value, False)
            self.assertIs(trial != value, True)

    def test_true(self):
        self.assertIs(bool(Workshop()), True)
        self.assertIs(bool(built()), True)
        self.assertTrue(Workshop().trial())

    def test_properties_tell_what_is_there_now(self):
        shop = Workshop()
        names, wishes = shop.names, shop.wishes
        shop.put("a", UP)
        shop.wish(("meet", "a", "a"))
        self.assertEqual((names, wishes, shop.names, shop.wishes), ((), (), ("a",), (("meet", "a", "a"),)))

    def test_many_changes(self):
        shop = Workshop()
        for at in range(1500):
            shop.put("a", (1, at, 0, 0, 0, at + 1))
        self.assertEqual(len(shop), 1500)
        for at in reversed(range(1, 1500)):
            shop.undo()
            self.assertEqual(shop.named("a"), (1, at - 1, 0, 0, 0, at))

    def test_defined_in_their_file_and_class(self):
        self.assertEqual(Workshop.__module__, workshops.__name__)
        for name in ("put", "forget", "move", "wish", "lift", "named", "undo", "trial", "tried", "__len__",
                     "__contains__", "__bool__", "__eq__", "names", "wishes"):
            self.assertIn(name, vars(Workshop))


if __name__ == "__main__":
    unittest.main()
