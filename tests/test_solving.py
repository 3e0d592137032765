"""Times that keep a system, or a ring below 0 [5.4]."""

import unittest

from lastlife.solving import Kept, Ring, solved, solved_fault
from lastlife.systems import System
from tests.helpers import FamilyTest
from tests.systems_samples import BIG, EXAMPLE, all_small_systems, sample_systems, small_times


class TestSolved(FamilyTest):
    def test_answers_are_right(self):
        kinds = {Kept: 0, Ring: 0}
        for system in sample_systems(150):
            answer = self.quick(solved, system)
            kinds[type(answer)] += 1
            self.assertIsNone(solved_fault(system, answer))
            if isinstance(answer, Kept):
                self.assertIsInstance(answer.times, tuple)
                self.assertTrue(system.keeps(answer.times))
            else:
                self.assertIsInstance(answer.path, tuple)
                self.assertLess(sum(system.links[index][2] for index in answer.path), 0)
        self.assertGreater(min(kinds.values()), 10)

    def test_there_are_times_exactly_if_some_small_ones_keep_the_system(self):
        for system in all_small_systems():
            wanted = any(system.keeps(times) for times in small_times(2, 3))
            self.assertEqual(isinstance(solved(system), Kept), wanted, system.links)

    def test_edges(self):
        self.assertEqual(len(solved(System(12)).times), 12)
        self.assertEqual(solved(System(1, [(0, 0, 5), (0, 0, -1)])).path, (1,))
        self.assertIsInstance(solved(System(2, [(0, 1, BIG), (1, 0, -BIG)])), Kept)
        self.assertIsInstance(solved(System(2, [(0, 1, BIG), (1, 0, -BIG - 1)])), Ring)
        ring = [(at, (at + 1) % 12, 1) for at in range(11)] + [(11, 0, -11)]
        self.assertIsInstance(solved(System(12, ring)), Kept)
        self.assertEqual(len(solved(System(12, [*ring, (11, 0, -12)])).path), 12)


class TestSolvedFault(FamilyTest):
    def judged(self, answer):
        return solved_fault(EXAMPLE.with_links((2, 0, 2)), answer)

    def test_kept(self):
        system = EXAMPLE
        for times, what in (((0, 1, 3), None), ([0, 3, 7], None), ((9, 10, 12), None), ((0, 1), "count"),
                            ((0, 1, 3, 3), "count"), ((), "count"), ((0, 4, 8), "link"), ((0, 1, 2), "link")):
            self.assertEqual(solved_fault(system, Kept(times)), what)

    def test_ring(self):
        for path, what in (((), "empty"), ((5,), "index"), ((0, -1), "index"), ((0, 5, 5), "index"),
                           ((3, 4, 1), "joint"), ((0,), "joint"), ((0, 2), "joint"), ((0, 2, 1), "joint"), ((0, 1), "sum"), ([2, 3], "sum"),
                           ((4, 3, 1), None), ([3, 1, 4], None), ((1, 4, 3), None), ((1, 4, 3, 1, 4, 3), None)):
            self.assertEqual(self.judged(Ring(path)), what, path)
        self.assertEqual(solved_fault(EXAMPLE.with_links((2, 0, 3)), Ring((4, 3, 1))), "sum")
        self.assertEqual(solved_fault(System(1, [(0, 0, 0), (0, 0, -1)]), Ring((0,))), "sum")
        self.assertIsNone(solved_fault(System(1, [(0, 0, 0), (0, 0, -1)]), Ring((0, 1))))


if __name__ == "__main__":
    unittest.main()
