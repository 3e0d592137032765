"""Whole numbers, names and the bounds of years [0.5] [1.1]."""

MOST_YEAR = 1000000000
LATE = 10000000000
MOST = 1000000

LONGEST_NAME = 8


def is_whole(thing, low, high):
    """Return whether the thing is a whole number from low to high."""
    return isinstance(thing, int) and not isinstance(thing, bool) and low <= thing <= high


def is_name(thing):
    """Return whether the thing is a name: 1 to 8 letters from a to z."""
    if not isinstance(thing, str) or not 1 <= len(thing) <= LONGEST_NAME:
        return False
    return all(["a" <= letter <= "z" for letter in thing])
