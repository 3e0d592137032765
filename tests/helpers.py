"""What several tests share: a base class, odd things and small records."""

import itertools
import time
import unittest

from lastlife.customs import Customs
from lastlife.errors import DeedError
from lastlife.lives import Lives
from lastlife.record import Record, record_fault

# No call within the bounds takes longer; a machine that is busy with other work gets some time more.
LONGEST_SECONDS = 2


class Always:
    """A thing that says that it is equal to everything."""

    def __eq__(self, other):
        return True

    def __repr__(self):
        return "Always()"


# Things that are neither whole numbers nor names nor objects of the package.
ODD = (True, False, None, 1.0, "", "A", "a b", b"a", [], (), ["a"], ("a",), [1], {}, {"a": 1}, object())
NOT_WHOLE = (*ODD, "1", "a", Always())
NOT_NAMES = (*ODD, Always(), 1, 0, "abcdefghi", "a1", "a-b", "\u00e9", "a\n")


class FamilyTest(unittest.TestCase):
    """A test with the sentences that many tests need."""

    def refused(self, error, attributes, call, *args, **more):
        """The call raises exactly this error with exactly these attributes, in their order."""
        with self.assertRaises(DeedError) as caught:
            call(*args, **more)
        self.assertIs(caught.exception.__class__, error)
        found = vars(caught.exception)
        self.assertEqual(list(found), list(attributes))
        for name, thing in attributes.items():
            if isinstance(thing, (int, str, tuple, type(None))):
                self.assertEqual(found[name], thing)
                self.assertIs(found[name].__class__, thing.__class__)
            else:
                self.assertIs(found[name], thing)

    def same(self, found, wanted):
        """Both are equal and of the same kind; True is not 1, a list is no tuple."""
        self.assertEqual(found, wanted)
        self.assertIs(found.__class__, wanted.__class__)
        if isinstance(wanted, tuple):
            for one, other in zip(found, wanted):
                self.same(one, other)

    def equals_only(self, thing, twin, *others):
        """The thing equals its twin and none of the others, nor things of other kinds."""
        self.assertIs(thing == twin, True)
        self.assertIs(twin == thing, True)
        self.assertIs(thing != twin, False)
        for other in (*others, *ODD, 1, "a"):
            self.assertIs(thing == other, False, other)
            self.assertIs(other == thing, False, other)
            self.assertIs(thing != other, True, other)

    def has_no_order(self, thing, twin):
        """No two objects are less or greater."""
        for call in (lambda: thing < twin, lambda: thing <= twin, lambda: thing > twin, lambda: thing >= twin):
            self.assertRaises(TypeError, call)

    def quick(self, call, *args, **more):
        """What the call returns; it does not take long."""
        start = time.perf_counter()
        found = call(*args, **more)
        self.assertLess(time.perf_counter() - start, LONGEST_SECONDS, call)
        return found

    def stands_in(self, owner, *methods):
        """The methods are defined in the class itself."""
        for method in methods:
            self.assertIn(method, vars(owner), owner)


def family(*rows, customs=None):
    """The record of these rows over a, its child b, and c."""
    return Record(family_lives(customs), rows)


def family_lives(customs=None):
    """The lives a, its child b, and c."""
    return Lives(customs or Customs(), (("a", 40, None), ("b", 10, "a"), ("c", 30, None)))


POOL = (
    ("born", 2, "a", "d"), ("born", 6, "a", "d"), ("born", 3, "d", "e"), ("born", 7, "b", "f"),
    ("wed", 2, "a", "m"), ("wed", 6, "a", "n"), ("happened", 4, "war"), ("died", 3, "m"),
    ("died", 5, "a"), ("died", 6, "b"), ("died", 6, "d"), ("died", 9, "e"),
)


def small_records(most):
    """All records over the family whose rows are at most so many rows of the pool."""
    lives = family_lives()
    ranks = {"born": 0, "wed": 1, "happened": 2, "died": 3}
    found = []
    for many in range(most + 1):
        for rows in itertools.combinations(POOL, many):
            rows = sorted(rows, key=lambda row: (row[1], ranks[row[0]], row[-1]))
            if record_fault(lives, rows) is None:
                found.append(Record(lives, rows))
    return found
