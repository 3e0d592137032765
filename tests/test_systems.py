"""Systems and paths [5.1] to [5.3]."""

import unittest

from lastlife.errors import BadSystem, BadTimes
from lastlife.systems import System, path_fault
from tests.helpers import NOT_WHOLE, ODD, Always, FamilyTest

BIG = 10 ** 180
LINKS = ((1, 0, 3), (0, 1, -1), (2, 1, 4), (1, 2, -2))


class TestSystem(FamilyTest):
    def bad(self, index, what, *things):
        self.refused(BadSystem, {"index": index, "what": what}, System, *things)

    def test_attributes(self):
        system = System(3, [[1, 0, 3], (0, 1, -BIG)])
        self.same((system.count, system.links), (3, ((1, 0, 3), (0, 1, -BIG))))
        self.same((System(1).links, len(System(1)), list(System(1))), ((), 0, []))
        self.assertEqual((len(system), list(system)), (2, [(1, 0, 3), (0, 1, -BIG)]))

    def test_nothing_that_is_passed_in_is_kept(self):
        link = [1, 0, 3]
        links = [link]
        system = System(2, links)
        link[2] = 9
        links.append((0, 1, 1))
        self.same(system.links, ((1, 0, 3),))

    def test_count(self):
        for count in (1, 12):
            self.assertEqual(System(count).count, count)
        for thing in (0, 13, -1, *NOT_WHOLE):
            self.bad(None, "count", thing)
            self.bad(None, "count", thing, 5)

    def test_links(self):
        self.assertEqual(len(System(1, [(0, 0, 1)] * 200)), 200)
        self.bad(None, "links", 1, [(0, 0, 1)] * 201)
        for thing in (None, 1, "", "abc", {}, {(0, 0, 1): 1}, Always(), iter([(0, 0, 1)])):
            self.bad(None, "links", 1, thing)

    def test_link(self):
        for thing in (*ODD, 1, "abc", (0, 0), (0, 0, 1, 1), (0, 0, True), (0, 0, 1.0), (False, 0, 1), (0, None, 1),
                      ("0", 0, 1), {0: 1, 1: 1, 2: 1}, Always()):
            self.bad(0, "link", 2, [thing])
            self.bad(1, "link", 2, [(0, 1, 1), thing])

    def test_instant(self):
        for link in ((2, 0, 1), (0, 2, 1), (-1, 0, 1), (0, -1, 1), (BIG, 0, 1)):
            self.bad(0, "instant", 2, [link])
            self.bad(1, "instant", 2, [(0, 1, 1), link, None])
        self.bad(0, "link", 2, [(2, 0, True), (5, 5, 5)])

    def test_keeps_and_broken(self):
        system = System(3, LINKS)
        for times, wanted in (((0, 1, 3), ()), ([0, 3, 7], ()), ((0, 4, 7), (0,)), ((0, 0, 9), (1, 2)),
                              ((0, 1, 1), (3,)), ((5, 1, 1), (1, 3)), ((BIG, BIG + 2, BIG + 5), ())):
            self.same(system.broken(times), wanted)
            self.same(system.keeps(times), wanted == ())
        self.same(System(1, [(0, 0, -1)]).broken((7,)), (0,))
        self.same(System(1, [(0, 0, 0)]).broken((7,)), ())

    def test_bad_times(self):
        system = System(2, [(0, 1, 1)])
        for thing in (*ODD, 1, "ab", (1,), (1, 2, 3), (1, True), (1, None), (1.0, 2), {0: 1, 1: 2}, Always()):
            self.refused(BadTimes, {}, system.keeps, thing)
            self.refused(BadTimes, {}, system.broken, thing)

    def test_with_links(self):
        system = System(3, LINKS[:2])
        self.equals_only(system.with_links(*LINKS[2:]), System(3, LINKS), system, System(4, LINKS), LINKS)
        self.equals_only(system.with_links(), system, System(3, (LINKS[1], LINKS[0])))
        self.same(system.links, LINKS[:2])
        self.refused(BadSystem, {"index": 3, "what": "instant"}, system.with_links, [0, 1, 1], (3, 0, 1))
        self.refused(BadSystem, {"index": 2, "what": "link"}, system.with_links, None)
        full = System(1, [(0, 0, 1)] * 200)
        self.refused(BadSystem, {"index": None, "what": "links"}, full.with_links, (0, 0, 1))

    def test_the_interface_stands_in_the_class(self):
        self.stands_in(System, "__init__", "keeps", "broken", "with_links", "__eq__", "__len__", "__iter__")
        self.has_no_order(System(1), System(1))


class TestPathFault(FamilyTest):
    def judged(self, path, start, end):
        return path_fault(System(3, (*LINKS, (2, 2, 0))), path, start, end)

    def test_right_paths(self):
        for path, start, end in (((0, 2), 0, 2), ([3, 1], 2, 0), ((0,), 0, 1), ((0, 1, 0, 1), 0, 0), ((), 1, 1),
                                 ([], 2, 2), ((4,), 2, 2), ((4, 4, 3), 2, 1)):
            self.assertIsNone(self.judged(path, start, end))

    def test_words(self):
        for path, start, end, what in (
                ((5,), 0, 1, "index"), ((-1,), 0, 1, "index"), ((0, True), 0, 2, "index"), ((2, 9), 0, 0, "index"),
                ((0, 2), 1, 2, "start"), ((2, 2), 0, 2, "start"), ((0, 0), 0, 1, "joint"), ((0, 2, 1), 0, 0, "joint"),
                ((0, 3), 0, 2, "joint"), ((0, 2), 0, 1, "end"), ((), 0, 1, "end"), ([], 2, 0, "end"), ((4,), 2, 0, "end")):
            self.assertEqual(self.judged(path, start, end), what, path)


if __name__ == "__main__":
    unittest.main()
