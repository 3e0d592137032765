"""Greatest differences [5.5] [5.6]."""

import unittest

from lastlife.differences import Endless, Greatest, greatest, greatest_fault, spans, times_with
from lastlife.errors import NoInstant, NoTimes
from lastlife.solving import Kept, solved
from lastlife.systems import System, path_fault
from tests.helpers import NOT_WHOLE, DeedError, FamilyTest
from tests.systems_samples import BIG, EXAMPLE, all_small_systems, sample_systems, small_times

LOOSE = System(4, [(1, 0, 3), (2, 1, 1), (1, 3, 5), (3, 3, 0)])
RING = System(3, [(1, 0, 3), (0, 1, -4)])


def kept_systems(many):
    return [system for system in sample_systems(many) if isinstance(solved(system), Kept)]


class TestGreatest(FamilyTest):
    def test_the_example(self):
        found = greatest(EXAMPLE, 2, 0)
        self.same((found.amount, found.path), (7, (0, 2)))
        self.assertEqual(greatest(EXAMPLE, 0, 2).amount, -3)

    def test_answers_are_right(self):
        kinds = {Greatest: 0, Endless: 0}
        for system in kept_systems(60):
            for one in range(system.count):
                for other in range(0, system.count, 2):
                    answer = self.quick(greatest, system, one, other)
                    kinds[type(answer)] += 1
                    self.assertIsNone(greatest_fault(system, one, other, answer))
                    self.assertTrue(system.keeps(answer.times))
                    if isinstance(answer, Greatest):
                        self.assertEqual(answer.times[one] - answer.times[other], answer.amount)
                        self.assertIsNone(path_fault(system, answer.path, other, one))
                    else:
                        raised = [time + 10 ** 200 * (at in answer.apart) for at, time in enumerate(answer.times)]
                        self.assertTrue(system.keeps(raised))
        self.assertGreater(min(kinds.values()), 50)

    def test_no_times_have_a_greater_difference(self):
        for system in all_small_systems():
            times = [times for times in small_times(2, 4) if system.keeps(times)]
            if times:
                answer = greatest(system, 1, 0)
                most = max(row[1] - row[0] for row in times)
                self.assertEqual(answer.amount if isinstance(answer, Greatest) else 4, most, system.links)

    def test_endless(self):
        answer = greatest(LOOSE, 3, 0)
        self.assertIsInstance(answer, Endless)
        self.same(answer.apart, (3,))
        self.same(greatest(LOOSE, 0, 2).apart, (0, 1, 3))
        self.same(greatest(System(2), 0, 1).apart, (0,))

    def test_an_instant_and_itself(self):
        found = greatest(EXAMPLE, 1, 1)
        self.same((found.amount, found.path), (0, ()))
        self.assertEqual(greatest(System(1, [(0, 0, 4)]), 0, 0).amount, 0)

    def test_rings_of_sum_0_and_long_numbers(self):
        system = System(3, [(1, 0, BIG), (0, 1, -BIG), (2, 1, BIG - 1), (1, 2, 1 - BIG)])
        self.assertEqual(greatest(system, 2, 0).amount, 2 * BIG - 1)
        self.assertEqual(greatest(system, 0, 2).amount, 1 - 2 * BIG)

    def test_errors(self):
        for thing in (3, -1, BIG, *NOT_WHOLE):
            self.refused(NoInstant, {"instant": thing}, greatest, RING, thing, None)
            self.refused(NoInstant, {"instant": thing}, greatest, RING, 0, thing)
            self.refused(NoInstant, {"instant": thing}, greatest_fault, RING, 0, thing, Greatest(0, (), ()))
            self.refused(NoInstant, {"instant": thing}, times_with, RING, thing, None, 0)
            self.refused(NoInstant, {"instant": thing}, times_with, RING, 0, thing, 0)
        for call in (lambda: greatest(RING, 0, 0), lambda: greatest(RING, 2, 0), lambda: spans(RING)):
            with self.assertRaises(NoTimes) as caught:
                call()
            self.assertIn(caught.exception.path, ((0, 1), (1, 0)))


class TestGreatestFault(FamilyTest):
    def test_greatest(self):
        right = (0, 3, 7)
        for amount, path, times, what in (
                (7, (0, 2), right, None), (7, [0, 2], list(right), None), (7, (0, 4), right, "index"),
                (7, (2,), right, "start"), (7, (), right, "end"), (7, (0, 0), right, "joint"), (3, (0,), right, "end"),
                (6, (0, 2), right, "sum"), (7, (0, 2), (0, 3), "count"), (7, (0, 2), (0, 4, 8), "link"),
                (7, (0, 2), (0, 3, 6), "amount"), (9, (0, 1, 0, 2), right, "amount"), (7, (0, 2), (5, 8, 12), None),
                (7, (0, 2), (-7, -4, -1), "amount"), (7, (0, 2), (1, 3, 6), "amount")):
            self.assertEqual(greatest_fault(EXAMPLE, 2, 0, Greatest(amount, path, times)), what, (amount, path, times))

    def test_endless(self):
        times = (0, 0, 0, 0)
        for one, other, apart, times, what in (
                (3, 0, (3,), times, None), (3, 2, (0, 1, 3), times, None), (3, 2, [3], times, None),
                (3, 0, (3, 3), times, "apart"), (3, 0, (4,), times, "apart"), (3, 0, (-1, 3), times, "apart"),
                (3, 2, (3, 0), times, "apart"), (3, 2, (0, True, 3), times, "apart"), (3, 0, (), times, "one"),
                (0, 2, (3,), times, "one"), (3, 0, (0, 1, 3), times, "other"), (1, 2, (1,), times, "leak"),
                (2, 0, (2, 3), times, "leak"), (3, 0, (3,), (0, 0, 0), "count"), (3, 0, (3,), (0, 4, 0, 0), "link")):
            self.assertEqual(greatest_fault(LOOSE, one, other, Endless(apart, times)), what, (one, other, apart))

    def test_it_raises_nothing_else(self):
        self.assertEqual(greatest_fault(RING, 0, 0, Greatest(0, (), (0, 0, 0))), "link")


class TestTimesWithAndSpans(FamilyTest):
    def test_times_with(self):
        for amount, there in ((2, False), (3, True), (5, True), (7, True), (8, False), (BIG, False)):
            times = times_with(EXAMPLE, 2, 0, amount)
            self.assertEqual(times is not None, there)
            if there:
                self.assertTrue(EXAMPLE.keeps(times))
                self.assertEqual(times[2] - times[0], amount)
        self.assertIsNone(times_with(RING, 2, 0, 5))
        self.assertEqual(times_with(System(2), 0, 1, BIG)[0] - times_with(System(2), 0, 1, BIG)[1], BIG)
        self.assertIsNone(times_with(System(1), 0, 0, 1))
        self.assertIsNotNone(times_with(System(1), 0, 0, 0))

    def test_times_with_beside_200_links(self):
        full = System(2, [(0, 1, 5)] * 200)
        times = self.quick(times_with, full, 0, 1, 5)
        self.assertEqual(times[0] - times[1], 5)
        self.assertIsNone(times_with(full, 0, 1, 6))

    def test_spans(self):
        self.same(spans(EXAMPLE), ((0, -1, -3), (3, 0, -2), (7, 4, 0)))
        self.same(spans(LOOSE), ((0, None, None, None), (3, 0, None, 5), (4, 1, 0, 6), (None, None, None, 0)))
        for system in kept_systems(30):
            rows = self.quick(spans, system)
            for one in range(system.count):
                for other in range(system.count):
                    answer = greatest(system, one, other)
                    self.assertEqual(rows[one][other], answer.amount if isinstance(answer, Greatest) else None)

    def test_errors_are_own_ones(self):
        self.assertTrue(issubclass(NoTimes, DeedError))


if __name__ == "__main__":
    unittest.main()
