"""Where forms of degree 4 are below 0, on which point 14 stands: forms with known places."""

import random
import unittest
from fractions import Fraction
from itertools import combinations_with_replacement

from stringrods.lows import pair_below


def multiplied(left, right):
    told = [0] * (len(left) + len(right) - 1)
    for at, number in enumerate(left):
        for to, other in enumerate(right):
            told[at + to] += number * other
    return told


def form_of(factor, places, rest=(1,)):
    """The form that is the factor times (b s - a t) for each place a / b, times the rest."""
    told = [factor]
    for place in places:
        place = Fraction(place)
        told = multiplied(told, [place.denominator, -place.numerator])
    return multiplied(told, rest)


def value(form, s, t):
    degree = len(form) - 1
    return sum(number * s ** (degree - at) * t ** at for at, number in enumerate(form))


class Below(unittest.TestCase):
    def check(self, form, somewhere):
        self.assertEqual(len(form), 5)
        pair = pair_below(tuple(form))
        self.assertIs(pair is not None, somewhere, form)
        if pair is not None:
            self.assertLess(value(form, *pair), 0)

    def check_places(self, places, rest=(1,)):
        """Some place is one an odd number of times, or the sign is turned round: then it is below 0 somewhere."""
        odd = any(places.count(place) % 2 for place in places)
        self.check(form_of(1, places, rest), odd)
        self.check(form_of(3, places, rest), odd)
        self.check(form_of(-1, places, rest), True)

    def test_all_small_places(self):
        places = [0, 1, -1, 2, -2, Fraction(1, 2), Fraction(-1, 2), 3, Fraction(3, 4), Fraction(-5, 2)]
        for four in combinations_with_replacement(places, 4):
            self.check_places(four)
        for two in combinations_with_replacement(places + [8, -12, 20, Fraction(7, 16)], 2):
            for rest in [(1, 0, 1), (1, 1, 1), (5, -2, 3), (1, 0, 10 ** 20), (10 ** 20, 1, 1)]:
                self.check_places(two, rest)

    def test_places_close_to_one_another(self):
        for figures in (3, 20, 80):
            step = Fraction(1, 10 ** figures)
            for start in (0, 1, Fraction(-2, 3), 10 ** figures, Fraction(1, 1000003)):
                for rest in [(1, 0, 1), (3, 1, 7)]:
                    self.check_places((start, start + step), rest)
                self.check_places((start, start, start + step, start + step))
                self.check_places((start, start, start + step, start + 2 * step))
                self.check_places((start, start + step, start + step, start + step))

    def test_one_side_alone(self):
        # Below 0 only beyond all places, or only between 1 : 0 and the last one, or at 1 : 0.
        self.check([0, 1, 0, 0, 0], True)
        self.check([0, -1, 0, 0, 0], True)
        self.check([0, 0, 0, 1, 0], True)
        self.check([0, 0, 0, 0, 0], False)
        self.check([0, 0, 0, 0, 5], False)
        self.check([0, 0, 0, 0, -5], True)
        self.check([5, 0, 0, 0, 0], False)
        self.check([-5, 0, 0, 0, 0], True)
        self.check([0, 0, 1, 0, 0], False)
        self.check([0, 0, 1, 2, 1], False)
        self.check([0, 0, 4, 4, 1], False)
        self.check([0, 0, 4, 5, 1], True)
        self.check([0, 0, -1, 0, 0], True)
        self.check([0, 0, 0, 1, -(10 ** 9)], True)
        self.check([0, 0, 1, -(10 ** 9), 0], True)
        self.check([1, -(10 ** 9), 0, 0, 0], True)
        self.check([1, 10 ** 9, 0, 0, 0], True)

    def test_no_places_at_all(self):
        for form in [[1, 0, 0, 0, 1], [1, 0, 1, 0, 1], [7, 1, 9, -2, 3], [1, 0, -1, 0, 1], [1, 0, -2, 0, 2]]:
            self.check(form, False)
        # (s s - 2 t t) squared: two places that are not told, and just above and below it.
        self.check([1, 0, -4, 0, 4], False)
        large = 10 ** 60
        self.check([large, 0, -4 * large, 0, 4 * large + 1], False)
        self.check([large, 0, -4 * large, 0, 4 * large - 1], True)

    def test_sums_of_squares(self):
        chance = random.Random(1)
        for _ in range(300):
            one, two = ([chance.randint(-9, 9) for _ in range(3)] for _ in range(2))
            form = [a + b for a, b in zip(multiplied(one, one), multiplied(two, two))]
            self.check(form, False)

    def test_by_chance(self):
        chance = random.Random(2)
        seen = set()
        for _ in range(600):
            form = [chance.randint(0, 6)] + [chance.randint(-6, 6) for _ in range(3)] + [chance.randint(0, 6)]
            tried = [value(form, s, t) for s in range(-60, 61) for t in (1, 7, 16, 30)]
            pair = pair_below(tuple(form))
            seen.add(pair is None)
            if pair is None:
                self.assertGreaterEqual(min(tried), 0)
            else:
                self.assertLess(value(form, *pair), 0)
        self.assertEqual(seen, {True, False})


if __name__ == "__main__":
    unittest.main()
