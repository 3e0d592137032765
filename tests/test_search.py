"""Bounds, sentences and the search, by which what can still come is asked."""

import itertools
import random
import unittest

from lastlife.bounds import NO_BOUND, wide_bounds
from lastlife.search import Search
from lastlife.sentences import ALL, SOME, all_of, denied, instants_of, some_of

COUNT = 4
SPAN = 2
ALL_TIMES = [(0, *times) for times in itertools.product(range(-SPAN, SPAN + 1), repeat=COUNT - 1)]


def holds(sentence, times):
    """Whether a sentence holds under times."""
    if sentence is True or sentence is False:
        return sentence
    if len(sentence) == 3:
        return times[sentence[0]] - times[sentence[1]] <= sentence[2]
    found = [holds(part, times) for part in sentence[1]]
    return all(found) if sentence[0] == ALL else any(found)


def made_link(dice):
    one, other = dice.sample(range(COUNT), 2)
    return (one, other, dice.randint(-3, 3))


def made(dice, depth=0):
    """A sentence by chance."""
    chance = dice.random()
    if depth == 3 or chance < 0.4:
        return dice.choice((made_link(dice), made_link(dice), made_link(dice), True, False))
    parts = [made(dice, depth + 1) for _ in range(dice.randint(1, 3))]
    return all_of(parts) if chance < 0.7 else some_of(parts)


def near_bounds():
    """The bounds of instants that are not far from the first one."""
    bounds = wide_bounds(COUNT)
    for at in range(1, COUNT):
        bounds.tighten(0, at, SPAN, 0)
        bounds.tighten(at, 0, SPAN, 0)
    return bounds


class TestSentences(unittest.TestCase):
    def test_they_mean_what_they_say(self):
        dice = random.Random(5)
        for _ in range(300):
            one, other = made(dice), made(dice)
            for times in ALL_TIMES[::5]:
                self.assertEqual(holds(all_of([one, other]), times), holds(one, times) and holds(other, times))
                self.assertEqual(holds(some_of([one, other]), times), holds(one, times) or holds(other, times))
                self.assertEqual(holds(denied(one), times), not holds(one, times))

    def test_they_are_as_short_as_can_be(self):
        one, other, third = (0, 1, 2), (1, 2, 3), (2, 0, -1)
        self.assertEqual((all_of([]), some_of([])), (True, False))
        self.assertEqual((all_of([one, True]), some_of([one, False])), (one, one))
        self.assertEqual((all_of([one, False]), some_of([one, True])), (False, True))
        self.assertEqual(all_of([one, (ALL, [other, third])]), (ALL, [one, other, third]))
        self.assertEqual(some_of([(SOME, [one, other]), third]), (SOME, [one, other, third]))
        self.assertEqual(all_of([one, (SOME, [other, third])]), (ALL, [one, (SOME, [other, third])]))
        self.assertEqual(denied((ALL, [one, other])), (SOME, [(1, 0, -3), (2, 1, -4)]))

    def test_instants(self):
        self.assertEqual(instants_of((ALL, [(0, 1, 2), (SOME, [(3, 1, 0), (4, 3, 1)])])), 0b11011)
        self.assertEqual(instants_of((SOME, [(2, 5, 0), (5, 2, 0)])), 0b100100)


class TestBounds(unittest.TestCase):
    def test_the_table_is_closed(self):
        dice = random.Random(6)
        for _ in range(200):
            bounds, links = wide_bounds(5), []
            for _ in range(8):
                link = (*dice.sample(range(5), 2), dice.randint(-3, 6))
                before = [row[:] for row in bounds.table]
                if bounds.clash(*link) is None:
                    links.append(link)
                    bounds.tighten(*link, 1 << len(links))
                    self.check_changes(bounds, before)
                else:
                    self.assertLess(bounds.most(link[1], link[0]) + link[2], 0)
            self.assertEqual(bounds.table, self.least_sums(links))
            self.check_grounds(bounds, links)

    def check_changes(self, bounds, before):
        """All bounds that have changed are told, and none else is told as changed."""
        changed = [(at, other) for at in range(5) for other in range(5) if bounds.table[at][other] != before[at][other]]
        self.assertEqual(bounds.has_changed(), bool(changed))
        ones, others = bounds.taken_changes()
        self.assertEqual(ones, sum(1 << at for at in {at for at, _ in changed}))
        for _, other in changed:
            self.assertTrue(others >> other & 1)
        self.assertEqual((bounds.has_changed(), bounds.taken_changes()), (False, (0, 0)))

    def least_sums(self, links):
        table = [[0 if at == other else NO_BOUND for other in range(5)] for at in range(5)]
        for one, other, most in links:
            table[one][other] = min(table[one][other], most)
        for by, at, other in itertools.product(range(5), repeat=3):
            if table[at][by] < NO_BOUND and table[by][other] < NO_BOUND:
                table[at][other] = min(table[at][other], table[at][by] + table[by][other])
        return table

    def check_grounds(self, bounds, links):
        """Each bound follows from those links alone that its grounds tell."""
        for at, other in itertools.product(range(5), repeat=2):
            told = [link for number, link in enumerate(links, 1) if bounds.grounds[at][other] >> number & 1]
            self.assertEqual(self.least_sums(told)[at][other], bounds.table[at][other])

    def test_a_copy_is_tightened_by_itself(self):
        bounds = wide_bounds(2)
        copy = bounds.copied()
        copy.tighten(0, 1, 5, 1)
        self.assertEqual((bounds.most(0, 1), copy.most(0, 1)), (NO_BOUND, 5))
        self.assertEqual((bounds.has_changed(), copy.has_changed(), copy.copied().has_changed()), (False, True, True))
        self.assertEqual((bounds.grounds[0][1], copy.grounds[0][1]), (0, 1))


class TestSearch(unittest.TestCase):
    def greatest(self, sentences):
        return max([times[1] - times[2] for times in ALL_TIMES if all(holds(one, times) for one in sentences)],
                   default=None)

    def test_the_greatest_difference_is_found(self):
        dice = random.Random(7)
        met = {True: 0, False: 0}
        for _ in range(1500):
            goal, *rules = [made(dice) for _ in range(dice.randint(1, 8))]
            wanted = self.greatest([goal, *rules])
            search = Search((1, 2), -100)
            found = search.find(near_bounds(), goal, rules)
            self.assertEqual(found, wanted is not None)
            self.assertEqual(search.best, -100 if wanted is None else wanted)
            met[found] += 1
            if found:
                earliest = [-search.bounds.most(0, at) for at in range(COUNT)]
                self.assertTrue(all(holds(one, earliest) for one in (goal, *rules)))
        self.assertGreater(min(met.values()), 50)

    def test_the_floor_and_what_is_enough(self):
        dice = random.Random(8)
        for _ in range(200):
            goal, *rules = [made(dice) for _ in range(3)]
            wanted = self.greatest([goal, *rules])
            for floor in (-2, 0, 3):
                search = Search((1, 2), floor)
                self.assertEqual(search.find(near_bounds(), goal, rules), wanted is not None and wanted > floor)
                search = Search((1, 2), floor, floor + 1)
                self.assertEqual(search.find(near_bounds(), goal, rules), wanted is not None and wanted > floor)
                self.assertEqual(search.is_done(), wanted is not None and wanted > floor)

    def test_any_times(self):
        dice = random.Random(9)
        for _ in range(200):
            sentences = [made(dice) for _ in range(4)]
            search = Search(None, 0, 1)
            self.assertEqual(search.find(near_bounds(), sentences[0], sentences[1:]), self.greatest(sentences) is not None)

    def test_the_grounds_on_which_a_link_cannot_hold(self):
        bounds = wide_bounds(COUNT)
        bounds.tighten(0, 1, 3, 0b10)
        bounds.tighten(1, 2, 1, 0b100)
        search = Search(None, 0, 1)
        self.assertTrue(search.is_added(bounds, (2, 0, -4), 0b1000))
        self.assertFalse(search.is_added(bounds, (2, 0, -5), 0b10000))
        self.assertEqual(search.grounds, 0b10110)
        self.assertIs(search.judged((SOME, [(2, 1, -2), (1, 0, -4)]), bounds), False)
        search.grounds = 0
        self.assertEqual(search.judged((SOME, [(2, 1, -2), (3, 0, 0), (0, 3, 1)]), bounds), (SOME, [(3, 0, 0), (0, 3, 1)]))
        self.assertEqual(search.grounds, 0b100)

    def test_no_bound(self):
        search = Search((1, 2))
        self.assertTrue(search.find(wide_bounds(COUNT), (SOME, [(1, 2, 5), (2, 0, 5)]), []))
        self.assertEqual(search.best, NO_BOUND)


if __name__ == "__main__":
    unittest.main()
