"""Ratios [0.5] [3.9]."""

import unittest
from fractions import Fraction

from lastlife.ratios import added, lowest, multiplied, taken_from
from tests.helpers import FamilyTest

RATIOS = [(top, bottom) for bottom in range(1, 8) for top in range(0, 15)]


def as_ratio(fraction):
    """The ratio of a fraction of Python's own."""
    return (fraction.numerator, fraction.denominator)


class TestRatios(FamilyTest):
    def test_lowest(self):
        for top, bottom, wanted in (
                (1, 1, (1, 1)), (2, 6, (1, 3)), (6, 2, (3, 1)), (0, 1, (0, 1)), (0, 7, (0, 1)), (5, 7, (5, 7)),
                (10 ** 300, 10 ** 299, (10, 1))):
            self.same(lowest(top, bottom), wanted)

    def test_added(self):
        self.same(added(), (0, 1))
        self.same(added((1, 3)), (1, 3))
        self.same(added((1, 3), (1, 6)), (1, 2))
        self.same(added((1, 2), (1, 3), (1, 6)), (1, 1))
        self.same(added((0, 1), (0, 1)), (0, 1))
        self.same(added((1, 2), (3, 4), (5, 6), (7, 8)), (71, 24))

    def test_multiplied(self):
        self.same(multiplied((2, 3), (3, 4)), (1, 2))
        self.same(multiplied((0, 1), (3, 4)), (0, 1))
        self.same(multiplied((5, 2), (2, 5)), (1, 1))

    def test_taken_from(self):
        self.same(taken_from((1, 2), (1, 3)), (1, 6))
        self.same(taken_from((1, 1), (1, 3)), (2, 3))
        self.same(taken_from((1, 3), (1, 3)), (0, 1))
        self.same(taken_from((5, 6), (0, 1)), (5, 6))

    def test_all_small_ratios(self):
        for one in RATIOS:
            first = Fraction(*one)
            self.same(lowest(*one), as_ratio(first))
            for other in RATIOS:
                second = Fraction(*other)
                self.same(added(as_ratio(first), as_ratio(second)), as_ratio(first + second))
                self.same(multiplied(as_ratio(first), as_ratio(second)), as_ratio(first * second))
                if second <= first:
                    self.same(taken_from(as_ratio(first), as_ratio(second)), as_ratio(first - second))


if __name__ == "__main__":
    unittest.main()
