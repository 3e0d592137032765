"""Ratios: tuples of a top and a bottom in lowest terms [3.9]."""

from math import gcd


def lowest(top, bottom):
    """Return top / bottom as a ratio."""
    shared = gcd(top, bottom)
    return (top // shared, bottom // shared)


def added(*ratios):
    """Return the sum of the ratios."""
    total = (0, 1)
    for top, bottom in ratios:
        total = lowest(total[0] * bottom + top * total[1], total[1] * bottom)
    return total


def multiplied(one, other):
    """Return the product of two ratios."""
    return lowest(one[0] * other[0], one[1] * other[1])


def taken_from(one, other):
    """Return one less other, which is at most one."""
    return lowest(one[0] * other[1] - other[0] * one[1], one[1] * other[1])
