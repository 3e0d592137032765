"""Links that follow from others [5.7] to [5.9]."""

import unittest

from lastlife.errors import BadSystem, NoTimes, OtherCount
from lastlife.implication import (Implied, KeptByAll, Needed, PartedAt, Unimplied, compare_systems, implied,
                                  implied_fault, needed)
from lastlife.solving import Kept, solved
from lastlife.systems import System, path_fault
from tests.helpers import ODD, FamilyTest
from tests.systems_samples import BIG, EXAMPLE, all_small_systems, sample_systems, small_times

RING = System(3, [(1, 0, 3), (0, 1, -4)])


def keeps(link, times):
    return times[link[0]] - times[link[1]] <= link[2]


class TestImplied(FamilyTest):
    def test_answers_are_right(self):
        kinds = {Implied: 0, Unimplied: 0}
        for system in sample_systems(80):
            if not isinstance(solved(system), Kept):
                continue
            for link in ((0, system.count - 1, 3), (system.count - 1, 0, BIG), (0, 0, 0), (0, 0, -1), (0, 0, 1)):
                answer = self.quick(implied, system, link)
                kinds[type(answer)] += 1
                self.assertIsNone(implied_fault(system, link, answer))
                if isinstance(answer, Unimplied):
                    self.assertTrue(system.keeps(answer.times))
                    self.assertFalse(keeps(link, answer.times))
        self.assertGreater(min(kinds.values()), 20)

    def test_a_link_is_implied_if_all_times_keep_it(self):
        for system in all_small_systems():
            if isinstance(solved(system), Kept):
                times = [times for times in small_times(2, 4) if system.keeps(times)]
                for link in ((1, 0, 0), [0, 1, 1], (1, 1, 0), (1, 0, -2)):
                    wanted = all(keeps(link, row) for row in times)
                    self.assertEqual(isinstance(implied(system, link), Implied), wanted, (system.links, link))

    def test_errors(self):
        for thing in (*ODD, 1, (0, 1), (0, 1, True), (0, 1, 1, 1)):
            self.refused(BadSystem, {"index": 0, "what": "link"}, implied, RING, thing)
            self.refused(BadSystem, {"index": 0, "what": "link"}, implied_fault, RING, thing, Implied(()))
        for thing in ((3, 0, 1), (0, -1, 1)):
            self.refused(BadSystem, {"index": 0, "what": "instant"}, implied, RING, thing)
            self.refused(BadSystem, {"index": 0, "what": "instant"}, implied_fault, RING, thing, Implied(()))
        self.assertRaises(NoTimes, implied, RING, (2, 0, 1))

    def test_implied_fault(self):
        for link, path, what in (
                ((2, 0, 7), (0, 2), None), ((2, 0, 9), [0, 2], None), ((2, 0, 9), (0, 1, 0, 2), None), ((1, 1, 0), (), None),
                ((2, 0, 7), (0, 4), "index"), ((2, 0, 7), (2,), "start"), ((2, 0, 7), (0, 0, 2), "joint"),
                ((2, 0, 7), (0,), "end"), ((2, 0, 7), (), "end"), ((2, 0, 6), (0, 2), "sum"), ((1, 1, -1), (), "sum")):
            self.assertEqual(implied_fault(EXAMPLE, link, Implied(path)), what, (link, path))
        for link, times, what in (
                ((2, 0, 6), (0, 3, 7), None), ((2, 0, 6), (0, 3), "count"), ((2, 0, 6), (0, 3, 8), "link"),
                ((2, 0, 6), (0, 3, 6), "kept"), ((2, 0, 7), (0, 3, 7), "kept")):
            self.assertEqual(implied_fault(EXAMPLE, link, Unimplied(times)), what, (link, times))


class TestNeeded(FamilyTest):
    def check(self, system, found):
        self.assertIsInstance(found, Needed)
        self.assertIsInstance(found.kept, tuple)
        self.assertIsInstance(found.dropped, tuple)
        kept = [index for index, _ in found.kept]
        dropped = [index for index, _ in found.dropped]
        self.assertEqual((kept, dropped), (sorted(kept), sorted(dropped)))
        self.assertEqual(sorted(kept + dropped), list(range(len(system))))
        for index, times in found.kept:
            self.assertEqual(len(times), system.count)
            self.assertEqual([other for other in kept if not keeps(system.links[other], times)], [index])
        for index, path in found.dropped:
            one, other, most = system.links[index]
            self.assertTrue(set(path) <= set(kept))
            self.assertIsNone(path_fault(system, path, other, one))
            self.assertLessEqual(sum(system.links[step][2] for step in path), most)

    def test_answers_are_right(self):
        for system in sample_systems(80, 3):
            if isinstance(solved(system), Kept):
                self.check(system, self.quick(needed, system))

    def test_which_links_are_dropped(self):
        for links, kept in (
                ([(1, 0, 3), (1, 0, 3)], [1]), ([(1, 0, 3), (1, 0, 4)], [0]), ([(1, 0, 4), (1, 0, 3)], [1]),
                ([(0, 0, 0), (1, 1, 5)], []), ([(2, 0, 7), (1, 0, 3), (2, 1, 4)], [1, 2]),
                ([(1, 0, 3), (2, 1, 4), (2, 0, 6)], [0, 1, 2]), ([], []),
                ([(1, 0, 1), (2, 1, 1), (0, 2, -2), (1, 0, 1), (2, 0, 2)], [1, 2, 3])):
            found = needed(System(3, links))
            self.assertEqual([index for index, _ in found.kept], kept, links)
            self.check(System(3, links), found)

    def test_no_times(self):
        self.assertRaises(NoTimes, needed, RING)


class TestCompareSystems(FamilyTest):
    def test_answers(self):
        wide = System(3, [(2, 0, 9), (1, 0, 3), (1, 1, 0)])
        found = compare_systems(wide, EXAMPLE)
        self.assertIsInstance(found, KeptByAll)
        self.assertEqual(len(found.paths), 3)
        for link, path in zip(wide, found.paths):
            self.assertIsNone(implied_fault(EXAMPLE, link, Implied(path)))
        found = compare_systems(EXAMPLE, wide)
        self.assertIsInstance(found, PartedAt)
        self.assertEqual(found.index, 1)
        self.assertTrue(wide.keeps(found.times))
        self.assertFalse(keeps(EXAMPLE.links[1], found.times))
        self.same(compare_systems(System(3), EXAMPLE).paths, ())
        self.assertEqual(compare_systems(EXAMPLE, System(3)).index, 0)

    def test_samples(self):
        systems = [system for system in sample_systems(200, 5) if isinstance(solved(system), Kept)]
        for one, other in zip(systems, systems[1:]):
            if one.count == other.count:
                found = self.quick(compare_systems, one, other)
                if isinstance(found, PartedAt):
                    self.assertTrue(other.keeps(found.times))
                    self.assertIn(found.index, one.broken(found.times))
                    self.assertTrue(all(isinstance(implied(other, link), Implied) for link in one.links[:found.index]))
            self.assertIsInstance(compare_systems(one, one), KeptByAll)

    def test_errors(self):
        self.refused(OtherCount, {}, compare_systems, System(2), RING)
        self.assertRaises(NoTimes, compare_systems, EXAMPLE, RING)
        self.assertIsInstance(compare_systems(RING, EXAMPLE), PartedAt)


if __name__ == "__main__":
    unittest.main()
