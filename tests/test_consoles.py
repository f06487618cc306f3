"""The interface of stringrods/consoles.py."""

import random
import unittest
from unittest import mock

from samples import ANYTHING, HUGE, NO_FOURS, NO_RODS, NO_TABLES, PLAIN, Grumpy
from shapes import ACROSS, GREAT, MAPS, SHIFT, TALL, UPRIGHT, pool_by
from shops import FAR, FOUR, HIGH, LEFT, built, state
from stringrods import consoles
from stringrods.consoles import Console
from stringrods.errors import (
    Broken, Far, InUse, InvalidPhrase, NotAWorkshop, NothingToUndo, RodError, Same, UnknownName,
)
from stringrods.gaps import gap
from stringrods.lots import meeters_count
from stringrods.rods import product
from stringrods.spaces import join
from stringrods.tables import rod_by
from stringrods.workshops import Workshop


def text(row):
    return " ".join(str(number) for number in row)


def table_text(table):
    return "; ".join(text(row) for row in table)


class Checks(unittest.TestCase):
    def check_refused(self, console, line, expected, attribute=None, value=None):
        before = state(console.shop)
        for call in (lambda: console.say(line), lambda: console.say(line=line)):
            with self.assertRaises(RodError) as caught:
                call()
            self.assertIs(caught.exception.__class__, expected, line)
            if attribute is None:
                self.assertEqual(vars(caught.exception), {})
            else:
                self.assertEqual(list(vars(caught.exception)), [attribute])
                if attribute == "given" and expected is InvalidPhrase:
                    self.assertIs(caught.exception.given, line)
                else:
                    self.assertEqual(getattr(caught.exception, attribute), value)
        self.assertEqual(state(console.shop), before)

    def check_no_phrase(self, console, line):
        self.check_refused(console, line, InvalidPhrase, "given")


def plain_console():
    shop = Workshop()
    for name, rod in (("post", UPRIGHT), ("beam", LEFT), ("high", HIGH), ("far", FAR)):
        shop.put(name, rod)
    return shop, Console(shop)


class Example(Checks):
    def test_the_interface(self):
        shop = Workshop()
        shop.put("post", UPRIGHT)
        shop.put("beam", LEFT)
        console = Console(shop)
        told = [console.say("show beam"), console.say("product beam post"), console.say("gap beam post"),
                console.say("count beam post"), console.say("join rail: 1 0 0 1; 1 0 1 1"), console.say("show rail"),
                console.say("names")]
        self.assertEqual(told, ["1 0 0 0 0 -1", "-1", "1", "endless", "done", "0 1 0 -1 0 0", "beam post rail"])
        self.check_no_phrase(console, "rod beam: 2 0 0 0 0 -2")


class Made(Checks):
    def test_of_a_workshop_alone(self):
        for value in ANYTHING + [Workshop, plain_console()[1], built().trial(), "shop"]:
            for call in (lambda: Console(value), lambda: Console(shop=value)):
                with self.assertRaises(RodError) as caught:
                    call()
                self.assertIs(caught.exception.__class__, NotAWorkshop)
                self.assertIs(caught.exception.given, value)

    def test_of_the_workshop_that_was_given(self):
        shop = built()
        console, second = Console(shop=shop), Console(shop)
        self.assertEqual(console.say("rod new: 1 0 0 0 0 0"), "done")
        self.assertEqual((shop.named("new"), len(shop)), (ACROSS, 11))
        shop.put("new", UPRIGHT)
        self.assertEqual((console.say("show new"), second.say("show new")), ("0 0 1 0 0 0",) * 2)

    def test_objects(self):
        shop = built()
        console = Console(shop)
        self.assertIs(bool(console), True)
        for value in [shop, Console(shop), mock.ANY] + ANYTHING:
            self.assertIs(console == value, False)
            self.assertIs(console != value, True)
        self.assertEqual(Console.__module__, consoles.__name__)
        self.assertIn("say", vars(Console))


class Lines(Checks):
    def test_rods(self):
        chance = random.Random(37)
        shop = Workshop()
        console = Console(shop)
        rods = pool_by(chance, None, 30) + [FAR, HIGH, (0, 0, 0, 1, 0, 0), rod_by(GREAT, LEFT), (1, 0, 0, 0, 0, -HUGE)]
        for many, rod in enumerate(rods):
            self.assertEqual(console.say("rod a: " + text(rod)), "done")
            self.assertEqual((shop.named("a"), len(shop)), (rod, many + 1))
            self.assertEqual(console.say("show a"), text(rod))

    def test_joins(self):
        chance = random.Random(38)
        shop = Workshop()
        console = Console(shop)
        points = [(1, 0, 0, 0), (0, 1, 0, 0), (0, 0, 0, 1), (2, -3, 5, 7), (1, HUGE, 0, -HUGE)]
        for _ in range(40):
            one, two = chance.choice(points), chance.choice(points)
            line = "join rail: " + text(one) + "; " + text(two)
            if one == two:
                self.check_refused(console, line, Same)
            else:
                self.assertEqual(console.say(line), "done")
                self.assertEqual(shop.named("rail"), join(one, two))
        self.check_refused(console, "join other: 1 0 0 0; 1 0 0 0", Same)
        self.assertNotIn("other", shop)

    def test_moves(self):
        shop, console = plain_console()
        for table in MAPS + [GREAT]:
            before = shop.named("beam")
            self.assertEqual(console.say("move beam: " + table_text(table)), "done")
            self.assertEqual(shop.named("beam"), rod_by(table, before))
        self.assertEqual(console.say("show beam"), text(shop.named("beam")))

    def test_forgets_and_undoes(self):
        shop, console = plain_console()
        self.assertEqual(console.say("forget high"), "done")
        self.assertEqual((shop.names, len(shop)), (("beam", "far", "post"), 5))
        self.assertEqual(console.say("undo"), "done")
        self.assertEqual((shop.named("high"), len(shop)), (HIGH, 4))
        for _ in range(4):
            self.assertEqual(console.say("undo"), "done")
        self.check_refused(console, "undo", NothingToUndo)
        self.assertEqual(console.say("names"), "none")

    def test_products_and_gaps(self):
        chance = random.Random(39)
        shop, seen = Workshop(), set()
        console = Console(shop)
        pool = pool_by(chance, None, 20) + [LEFT, HIGH, UPRIGHT, rod_by(TALL, HIGH), (1, 0, 0, 0, 0, -2)]
        for _ in range(60):
            one, two = chance.choice(pool), chance.choice(pool)
            shop.put("a", one)
            shop.put("b", two)
            self.assertEqual(console.say("product a b"), str(product(one, two)))
            number, part = gap(one, two)
            told = console.say("gap a b")
            self.assertEqual(told, str(number) if part == 1 else f"{number}/{part}")
            self.assertEqual(console.say("gap b a"), told)
            seen.add("/" in told)
        self.assertEqual(seen, {True, False})
        self.assertEqual([console.say("product a a"), console.say("gap b b")], ["0", "0"])

    def test_counts(self):
        shop = Workshop()
        for name, rod in zip("abcd", FOUR):
            shop.put(name, rod)
        shop.put("e", LEFT)
        shop.put("f", FAR)
        console, seen = Console(shop), set()
        for names in ("a", "a b", "a b c", "a b c d", "a a a a a a a a", "a b c d a b c d", "a b c d e", "a b e f",
                      "a b c e", "f e b a d c f f", "e f", "a b c d e f"):
            lot = tuple(shop.named(name) for name in names.split())
            told = console.say("count " + names)
            self.assertEqual(told, str(meeters_count(lot)))
            seen.add(told)
        self.assertLessEqual({"1", "2", "endless"}, seen)
        free = (UPRIGHT, (1, 0, 1, -1, 0, 1), (0, 1, 1, 0, -1, 1), (1, 1, 2, -1, -1, 1))
        for name, rod in zip("abcd", free):
            shop.put(name, rod)
        self.assertEqual(console.say("count a b c d"), "0")
        touched = (UPRIGHT, (1, 0, 1, 0, 0, 0), (0, 1, 1, 0, -1, 1), (0, 1, -1, 0, -1, -1))
        for name, rod in zip("abcd", touched):
            shop.put(name, rod)
        self.assertEqual(console.say("count d c b a"), "1")

    def test_names(self):
        shop = Workshop()
        console = Console(shop)
        self.assertEqual(console.say("names"), "none")
        for name in ("zz", "a", "azazazazazaz", "none", "names", "undo"):
            shop.put(name, UPRIGHT)
        self.assertEqual(console.say("names"), "a azazazazazaz names none undo zz")
        # Words of lines are names like others.
        for name in ("names", "undo", "none"):
            self.assertEqual(console.say("show " + name), "0 0 1 0 0 0")
            self.assertEqual(console.say("rod " + name + ": 0 0 0 0 0 1"), "done")
            self.assertEqual(console.say("forget " + name), "done")

    def test_numbers_of_many_figures(self):
        shop = Workshop()
        console = Console(shop)
        great = 10 ** 1900 + 7
        shop.put("a", (1, 0, 0, 0, great, 0))
        shop.put("b", (0, 1, great, 0, 0, 0))
        self.assertEqual(console.say("show a"), "1 0 0 0 1" + "0" * 1899 + "7 0")
        self.assertEqual(console.say("product a b"), str(great))
        self.assertEqual(console.say("gap a b"), "/".join(map(str, gap(shop.named("a"), shop.named("b")))))
        self.assertEqual(console.say("rod c: " + text((1, 0, 0, 0, -great, 0))), "done")
        self.assertEqual(shop.named("c"), (1, 0, 0, 0, -great, 0))
        self.assertEqual(console.say("join d: 1 0 0 " + str(great) + "; 0 1 0 0"), "done")
        self.assertEqual(shop.named("d"), (1, 0, 0, 0, great, 0))
        self.assertEqual(console.say("move d: 1 0 0 0; 0 1 0 0; 0 0 1 0; " + str(-great) + " 0 0 1"), "done")
        self.assertEqual(shop.named("d"), ACROSS)


class NoPhrases(Checks):
    GOOD = ["rod beam: 1 0 0 0 0 -1", "join beam: 1 0 0 1; 1 0 1 1", "move beam: 1 0 0 0; 0 1 0 0; 0 0 1 0; 0 0 0 1",
            "forget beam", "undo", "show beam", "product beam post", "gap beam post", "count beam", "count beam post",
            "names"]

    def test_the_good_ones(self):
        for line in self.GOOD:
            self.assertIs(plain_console()[1].say(line).__class__, str)

    def test_no_strings(self):
        shop, console = plain_console()
        for value in [each for each in ANYTHING if not isinstance(each, str)] + [
            ("show", "beam"), ["show beam"], b"show beam", ("show beam",), {"show beam"}, Grumpy(), shop, console,
        ]:
            self.check_no_phrase(console, value)

    def test_one_sign_changed(self):
        shop, console = plain_console()
        before = state(shop)
        good = set(self.GOOD) | {"rod beam: 1 0 0 0 0 " + str(-number) for number in range(2, 20)}
        for line in self.GOOD:
            changed = {line + sign for sign in " \n:;.0-a!"} | {sign + line for sign in " \n:;.0-aA"}
            for at in range(len(line)):
                changed.add(line[:at] + line[at + 1:])
                changed.update(line[:at] + sign + line[at:] for sign in " :;-+0.,\t/A")
                changed.update(line[:at] + sign + line[at + 1:] for sign in " :;-+.,\t_/A")
            for each in sorted(changed - good):
                try:
                    console.say(each)
                except InvalidPhrase as error:
                    self.assertIs(error.given, each)
                    self.assertEqual(len(shop), 4)
                    continue
                except (UnknownName, Same):
                    # Another name, or another point, is a line as well.
                    self.assertEqual(len(shop), 4)
                    continue
                # What is taken must be the one text of something else.
                self.assertTrue(self.is_plain(each), each)
                while len(shop) > 4:
                    shop.undo()
                while len(shop) < 4:
                    shop, console = plain_console()
        self.assertEqual(state(plain_console()[0]), before)

    def is_plain(self, line):
        """Whether a line has no blank too many, no sign beside, and no number with a 0 ahead."""
        words = line.replace(":", "", 1).replace("; ", " ").split(" ")
        if not all(words) or line != line.strip() or line.lower() != line:
            return False
        numbers = [word for word in words if not word.isalpha()]
        return all(str(int(number)) == number for number in numbers)

    def test_numbers_that_are_not_written_so(self):
        console = plain_console()[1]
        for number in ("00", "01", "-0", "+0", "-01", "+1", "1.0", "1e0", "0x1", "1_0", " 1", "1 ", "-", "--1", "- 1",
                       "",
                       "1/1", "one", "1,", "(1)", "'1'", "True", "None", "a", "2", "-1"):
            self.check_no_phrase(console, "rod beam: " + number + " 0 0 0 0 0")
            self.check_no_phrase(console, "join beam: " + number + " 0 0 0; 0 1 0 0")
            self.check_no_phrase(console, "join beam: 0 1 0 0; " + number + " 0 0 0")
        for number in ("00", "-0", "+0", "0.0", "", "O", "1/2", "+5", "05"):
            self.check_no_phrase(console, "rod beam: 1 0 0 0 0 " + number)
            self.check_no_phrase(console, "move beam: 1 0 0 0; 0 1 0 0; 0 0 1 0; 0 0 " + number + " 1")

    def test_what_is_no_rod_point_or_table(self):
        console = plain_console()[1]
        rows = [value for value in NO_RODS + NO_FOURS if isinstance(value, tuple)]
        rows = [row for row in rows if all(number.__class__ is int for number in row)]
        for row in rows:
            if len(row) != 6 or any(row is each for each in NO_RODS):
                self.check_no_phrase(console, "rod beam: " + text(row))
            if len(row) != 4 or any(row is each for each in NO_FOURS):
                self.check_no_phrase(console, "join beam: " + text(row) + "; 0 0 0 1")
                self.check_no_phrase(console, "join beam: 0 0 0 1; " + text(row))
        for value in NO_TABLES:
            if isinstance(value, tuple) and all(isinstance(row, tuple) for row in value):
                if all(number.__class__ is int for row in value for number in row):
                    self.check_no_phrase(console, "move beam: " + table_text(value))
        plain = table_text(PLAIN)
        for line in ("rod beam: " + plain, "join beam: " + plain, "join beam: 1 0 0 0", "join beam: 1 0 0 0; ",
                     "join beam: 1 0 0 0; 0 1 0 0; 0 0 1 0", "join beam: 1 0 0 0;0 1 0 0",
                     "join beam: 1 0 0 0 ; 0 1 0 0",
                     "join beam: 1 0 0 0 0 1 0 0", "join beam: 1 0 0 0, 0 1 0 0", "move beam: " + plain + ";",
                     "move beam: " + plain + "; ", "move beam: " + plain.replace("; ", " "), "rod beam:", "rod beam: ",
                     "rod beam", "rod : 1 0 0 0 0 0", "rod: 1 0 0 0 0 0", "rod beam:1 0 0 0 0 0",
                     "rod beam 1 0 0 0 0 0",
                     "rod beam post: 1 0 0 0 0 0", "rod beam: beam", "rod beam: (1, 0, 0, 0, 0, 0)", "join beam: post",
                     "rod beam: 1 0 0 0 0 0: ", "rod beam: post: 1 0 0 0 0 0", "move beam: ", "move: " + plain):
            self.check_no_phrase(console, line)

    def test_names_and_their_number(self):
        console = plain_console()[1]
        for line in ("", " ", "show", "show ", "show beam ", "show  beam", " show beam", "show beam post", "Show beam",
                     "SHOW beam", "show Beam", "show beam1", "show " + "a" * 13, "show beam:", "show beam: ",
                     "show: beam",
                     "forget", "forget beam post", "forget beam, post", "undo beam", "undo ", "undo 1", "undo: ",
                     "undo undo",
                     "names beam", "names ", "names:", "product", "product beam", "product beam post high",
                     "product beam  post", "product beam, post", "gap beam", "gap beam post high", "gap", "count",
                     "count ",
                     "count beam " * 2, "count" + " beam" * 9, "count beam post ", "count beam,post", "count 1",
                     "counts beam",
                     "rods", "wish meet beam post", "lift 0", "hello", "none", "beam", "show beam; show post",
                     "show beam\nshow post", "show beam\n", "\tshow beam", "show\tbeam", "show beam#", "rod", "join",
                     "move",
                     "rod beam: 1 0 0 0 0", "rod beam: 1 0 0 0 0 0 0", "rod Beam: 1 0 0 0 0 0", "rod : 0 0 0 0 0 1",
                     "rod " + "a" * 13 + ": 1 0 0 0 0 0", "rod b_m: 1 0 0 0 0 0", "rod beam : 1 0 0 0 0 0",
                     "rod  beam: 1 0 0 0 0 0", "rod beam:  1 0 0 0 0 0", "rod beam: 1 0 0 0 0 0 ",
                     "rod beam: 1  0 0 0 0 0"):
            self.check_no_phrase(console, line)

    def test_a_phrase_that_is_none_is_told_ahead_of_unknown_names(self):
        console = plain_console()[1]
        for line in ("show Nobody", "product nobody",
                     "count nobody nobody nobody nobody nobody nobody nobody nobody beam",
                     "move nobody: 1 0 0 0", "gap nobody beam "):
            self.check_no_phrase(console, line)


class WhatIsCalled(Checks):
    def test_unknown_names(self):
        console = plain_console()[1]
        for line, name in (
            ("show nobody", "nobody"), ("forget nobody", "nobody"), ("product nobody noone", "nobody"),
            ("product beam noone", "noone"), ("gap noone nobody", "noone"), ("gap post nobody", "nobody"),
            ("gap far nobody", "nobody"), ("count nobody", "nobody"), ("count beam post noone high nobody", "noone"),
            ("move nobody: " + table_text(SHIFT), "nobody"), ("show names", "names"), ("show none", "none"),
        ):
            self.check_refused(console, line, UnknownName, "given", name)

    def test_broken_and_in_use(self):
        console = Console(built())
        for line, index in (
            ("rod beam: 1 0 0 0 0 0", 0), ("rod far: 0 1 0 -1 0 0", 1), ("join beam: 1 0 0 0; 0 1 0 0", 0),
            ("join round: 1 0 0 0; 0 1 0 0", 2), ("move round: " + table_text(SHIFT), 2),
            ("move post: 1 0 0 0; 0 1 0 0; 1 0 1 0; 0 0 0 1", 0),
        ):
            self.check_refused(console, line, Broken, "index", index)
        for name, index in (("post", 0), ("far", 1), ("round", 2)):
            self.check_refused(console, "forget " + name, InUse, "index", index)
        # Same is told ahead of what putting would break.
        self.check_refused(console, "join beam: 1 0 0 0; 1 0 0 0", Same)

    def test_far(self):
        console = plain_console()[1]
        for line in ("gap far beam", "gap beam far", "gap far far"):
            self.check_refused(console, line, Far)
        self.assertEqual(console.say("product far beam"), "0")

    def test_asking_changes_nothing(self):
        shop = built()
        console = Console(shop)
        for line in ("show beam", "product beam post", "gap beam post", "count beam", "names"):
            self.assertEqual(console.say(line), console.say(line))
        self.assertEqual(state(shop), state(built()))

    def test_within_a_trial(self):
        shop = built()
        console = Console(shop)
        with self.assertRaises(InvalidPhrase):
            with shop.trial():
                self.assertEqual(console.say("rod new: 1 0 0 0 0 0"), "done")
                self.assertEqual(console.say("show new"), "1 0 0 0 0 0")
                console.say("show new ")
        self.assertEqual(state(shop), state(built()))


if __name__ == "__main__":
    unittest.main()
