"""Points 2 and 37, and the interface of stringrods/checker.py."""

import copy
import random
import unittest

from claims import BAD, GOOD, ODD, SORTS, is_so
from samples import ANYTHING, Grumpy
from stringrods import checker
from stringrods.checker import accepts


def changed(value, deep):
    """Values like this one that differ in one place, in a number's class or in what they are made of."""
    if value.__class__ is tuple:
        yield list(value)
        yield value + (0,)
        yield value + value[-1:]
        yield value[:-1]
        yield value[1:]
        yield value[::-1]
        yield (value,)
        yield dict(enumerate(value))
        for at in range(len(value)):
            for part in changed(value[at], deep - 1) if deep else [None]:
                yield value[:at] + (part,) + value[at + 1:]
    elif value.__class__ is int:
        yield from [value + 1, -value, 2 * value, None, str(value), (value,), [value], Grumpy()]
        if value in (0, 1):
            yield bool(value)
    else:
        yield from [value + "s", value.upper(), value[:-1], "meet", "apart", "", None, (value,), value.encode(), 0]


class Pairs(unittest.TestCase):
    def check_pair(self, claim, paper, expected):
        for call in (lambda: accepts(claim, paper), lambda: accepts(paper=paper, claim=claim)):
            self.assertIs(call(), expected, (claim, paper))

    def test_each_word_has_pairs(self):
        self.assertEqual({claim[0] for claim, _ in GOOD}, set(SORTS))
        self.assertEqual({claim[0] for claim, _ in BAD}, set(SORTS))

    def test_what_is_so(self):
        for claim, paper in GOOD:
            self.check_pair(claim, paper, True)
            self.assertIs(is_so(claim, paper), True, (claim, paper))

    def test_what_is_not_so(self):
        for claim, paper in BAD:
            self.check_pair(claim, paper, False)
            self.assertFalse(is_so(claim, paper), (claim, paper))

    def test_papers_of_other_claims(self):
        papers = [paper for _, paper in GOOD + BAD[::3]] + ODD
        seen = 0
        for claim, right in GOOD:
            for paper in papers:
                told = accepts(claim, paper)
                self.assertIs(told, bool(is_so(claim, paper)), (claim, paper))
                seen += told and paper != right
        # Some claims have more papers than one.
        self.assertGreater(seen, 20)

    def test_each_paper_changed(self):
        for claim, paper in GOOD:
            for other in changed(paper, 3):
                self.assertIs(accepts(claim, other), bool(is_so(claim, other)), (claim, other))

    def test_each_claim_changed(self):
        chance = random.Random(37)
        for claim, paper in GOOD:
            others = list(changed(claim, 3))
            for other in others if len(others) < 150 else chance.sample(others, 150):
                self.assertIs(accepts(other, paper), bool(is_so(other, paper)), (other, paper))

    def test_with_another_word(self):
        for claim, paper in GOOD:
            for word in list(SORTS) + ["Meet", "meet ", "", "is", "meets", b"meet", None, 0, ("meet",), Grumpy()]:
                other = (word,) + claim[1:]
                self.assertIs(accepts(other, paper), bool(is_so(other, paper)), (other, paper))

    def test_too_short_too_long_and_in_a_list(self):
        for claim, paper in GOOD:
            for other in (list(claim), claim[1:], claim[:-1], claim + ((),), claim + claim[-1:], (claim,),
                          (claim, paper),
                          (claim[0], claim[1:]), claim[:1], (claim[0],) + claim, tuple(reversed(claim))):
                self.assertIs(accepts(other, paper), False, other)

    def test_anything_in_both_places(self):
        for claim in ANYTHING + ODD + [(value,) for value in ANYTHING[::3]]:
            for paper in [()] + ODD:
                self.assertIs(accepts(claim, paper), False)
        for word, sorts in SORTS.items():
            for value in ANYTHING:
                for paper in ((), value):
                    self.assertIs(accepts((word,) + (value,) * len(sorts), paper), False)

    def test_each_part_is_anything(self):
        for claim, paper in GOOD[::2]:
            for at in range(1, len(claim)):
                for value in ANYTHING[::2]:
                    other = claim[:at] + (value,) + claim[at + 1:]
                    self.assertIs(accepts(other, paper), bool(is_so(other, paper)), (other, paper))
            for value in ANYTHING:
                self.assertIs(accepts(claim, value), bool(is_so(claim, value)), (claim, value))

    def test_the_same_when_asked_again(self):
        for claim, paper in GOOD + BAD:
            before = (copy.deepcopy(claim), copy.deepcopy(paper))
            self.assertIs(accepts(claim, paper), accepts(claim, paper))
            self.assertEqual((claim, paper), before)

    def test_defined_in_its_file(self):
        self.assertEqual(accepts.__module__, checker.__name__)


if __name__ == "__main__":
    unittest.main()
