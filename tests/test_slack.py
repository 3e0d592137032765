"""The least mean of all rings [5.11]."""

import unittest
from fractions import Fraction

from lastlife.slack import Slack, slack, slack_fault
from lastlife.systems import System
from tests.helpers import FamilyTest
from tests.systems_samples import BIG, EXAMPLE, all_small_systems, sample_systems


def least_mean(system):
    """The least mean of all rings, by the sums of the paths of each number of links."""
    sums = [[0] * system.count]
    for _ in range(system.count):
        row = [None] * system.count
        for one, other, most in system:
            if sums[-1][other] is not None:
                found = sums[-1][other] + most
                row[one] = found if row[one] is None else min(row[one], found)
        sums.append(row)
    means = [max(Fraction(sums[-1][end] - sums[many][end], system.count - many)
                 for many in range(system.count) if sums[many][end] is not None)
             for end in range(system.count) if sums[-1][end] is not None]
    return min(means) if means else None


class TestSlack(FamilyTest):
    def test_answers_are_right(self):
        for system in [*sample_systems(150, 13), *all_small_systems()]:
            found = self.quick(slack, system)
            wanted = least_mean(system)
            self.assertEqual(found is None, wanted is None)
            if found is not None:
                self.same(found.ratio, (wanted.numerator, wanted.denominator))
                self.assertIsNone(slack_fault(system, found))
                self.assertIsInstance(found.path, tuple)
                self.assertIsInstance(found.times, tuple)

    def test_no_ring(self):
        for system in (System(3), System(3, [(0, 1, -5), (1, 2, -5), (0, 2, 5)])):
            self.assertIsNone(slack(system))

    def test_means(self):
        for links, ratio in (
                ([(0, 1, 1), (1, 0, -1)], (0, 1)), ([(0, 1, 1), (1, 0, -4)], (-3, 2)), ([(0, 0, 7)], (7, 1)),
                ([(0, 0, 7), (1, 1, -BIG)], (-BIG, 1)), ([(0, 1, 2), (1, 2, 1), (2, 0, 1), (1, 0, 2)], (4, 3)),
                ([(0, 1, 2), (1, 0, 4)], (3, 1)), (EXAMPLE.links, (1, 1))):
            self.same(slack(System(3, links)).ratio, ratio)

    def test_faults(self):
        system = System(3, [(0, 1, 1), (1, 0, -4), (1, 2, 1), (2, 2, 5)])
        right = slack(system)
        self.assertIsNone(slack_fault(system, right))
        for ratio, path, times, what in (
                ((-3, 2), (), right.times, "empty"), ((-3, 2), (0, 4), right.times, "index"),
                ((-3, 2), (0, 2), right.times, "joint"), ((-3, 2), (0,), right.times, "joint"),
                ((-3, 1), (0, 1), right.times, "mean"), ((-6, 4), (0, 1), right.times, "mean"),
                ((3, -2), (0, 1), right.times, "mean"), ((-3, 2), (0, 1), right.times[:2], "count"),
                ((-3, 2), (0, 1), (0, 0, 0), "link"), ((5, 1), (3,), right.times, "link"),
                ((-3, 2), (1, 0), right.times, None), ((-3, 2), [0, 1, 0, 1], right.times, None),
                ((-3, 2), (0, 1), [time + 5 for time in right.times], None)):
            self.assertEqual(slack_fault(system, Slack(ratio, path, times)), what, (ratio, path))


if __name__ == "__main__":
    unittest.main()
