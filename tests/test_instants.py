"""Systems with one instant less [5.10]."""

import unittest

from lastlife.errors import BadTimes, NoInstant
from lastlife.instants import window, without_instant
from lastlife.systems import System
from tests.helpers import NOT_WHOLE, ODD, FamilyTest
from tests.systems_samples import BIG, EXAMPLE, sample_systems, small_times


class TestWithoutInstant(FamilyTest):
    def test_the_example(self):
        self.same(without_instant(EXAMPLE, 1).links, ((0, 1, -3), (1, 0, 7)))
        self.assertEqual(without_instant(EXAMPLE, 1).count, 2)

    def test_the_links(self):
        for links, instant, wanted in (
                ([(0, 2, 5), (2, 0, 1), (0, 2, 4)], 1, ((0, 1, 4), (1, 0, 1))),
                ([(0, 1, 5), (1, 2, -9)], 1, ((0, 1, -4),)), ([(0, 1, 5), (1, 0, -5)], 1, ()),
                ([(0, 1, 5), (1, 0, -6), (1, 0, -8)], 1, ((0, 0, -3),)), ([(1, 1, -4), (1, 1, -2)], 1, ((0, 0, -4),)),
                ([(1, 1, -1)], 1, ((0, 0, -1),)),
                ([(1, 1, 0), (0, 0, 0), (2, 2, 7)], 1, ()), ([(2, 2, -1)], 0, ((1, 1, -1),)),
                ([(1, 1, -4), (0, 0, -7)], 1, ((0, 0, -7),)), ([(2, 0, 3), (0, 1, 4), (2, 1, 9)], 0, ((1, 0, 7),)),
                ([(2, 0, BIG), (0, 1, BIG)], 0, ((1, 0, 2 * BIG),)), ([], 2, ())):
            found = without_instant(System(3, links), instant)
            self.same((found.count, found.links), (2, wanted))

    def test_times_keep_it_exactly_if_some_time_completes_them(self):
        for system in sample_systems(120, 7):
            if 2 <= system.count <= 4 and all(abs(link[2]) < 99 for link in system):
                for instant in range(system.count):
                    shorter = without_instant(system, instant)
                    for times in small_times(system.count - 1, 4)[::7]:
                        self.assertEqual(shorter.keeps(times), window(system, instant, times) is not None)

    def test_errors(self):
        for call in (lambda thing: without_instant(EXAMPLE, thing), lambda thing: window(EXAMPLE, thing, None)):
            for thing in (3, -1, *NOT_WHOLE):
                self.refused(NoInstant, {"instant": thing}, call, thing)
        self.refused(NoInstant, {"instant": 0}, without_instant, System(1), 0)
        self.refused(NoInstant, {"instant": 0}, window, System(1), 0, ())

    def test_it_does_not_take_long(self):
        for system in sample_systems(40, 9):
            if system.count > 1:
                found = self.quick(without_instant, system, system.count - 1)
                self.assertEqual(list(found.links), sorted(found.links))


class TestWindow(FamilyTest):
    def test_the_example(self):
        self.same(window(EXAMPLE, 1, (0, 6)), (2, 3))
        self.assertIsNone(window(EXAMPLE, 1, (0, 8)))

    def test_ends(self):
        for links, instant, times, wanted in (
                ([], 0, (5, 5), (None, None)), ([(0, 1, 3)], 0, (5, 5), (None, 8)), ([(1, 0, 3)], 0, [5, 5], (2, None)),
                ([(0, 1, 3), (2, 0, -1)], 0, (5, 5), (6, 8)), ([(0, 1, 0), (2, 0, 0)], 0, (5, 5), (5, 5)),
                ([(0, 1, 0), (2, 0, -1)], 0, (5, 5), None), ([(1, 2, 0)], 0, (6, 5), None), ([(0, 0, -1)], 0, (5, 5), None),
                ([(0, 0, 0)], 0, (5, 5), (None, None)), ([(2, 0, -2), (2, 1, BIG)], 2, (5, BIG), (None, 3)),
                ([(1, 1, -1)], 0, (5, 5), None), ([(0, 2, 4), (0, 2, 3), (0, 1, 9)], 0, (5, 5), (None, 8))):
            self.same(window(System(3, links), instant, times), wanted)

    def test_each_time_within_completes_and_none_beyond(self):
        for system in sample_systems(80, 11):
            if 2 <= system.count <= 4 and all(abs(link[2]) < 99 for link in system):
                for times in small_times(system.count - 1, 3)[::5]:
                    found = window(system, 1, times)
                    for time in range(-20, 20):
                        kept = system.keeps((*times[:1], time, *times[1:]))
                        within = found is not None and (found[0] is None or found[0] <= time)
                        self.assertEqual(kept, within and (found[1] is None or time <= found[1]))

    def test_bad_times(self):
        for thing in (*ODD, 1, "ab", (1,), (1, 2, 3), (1, True), (None, 1), (1.0, 2)):
            self.refused(BadTimes, {}, window, EXAMPLE, 1, thing)


if __name__ == "__main__":
    unittest.main()
