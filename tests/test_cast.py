"""How many newcomers are enough to look at [0.4]."""

import unittest

from lastlife.cast import chain_cast
from lastlife.conditions import By
from lastlife.dates import Close, Death, First, Last, Year
from lastlife.gifts import Gift
from lastlife.kin import Children, Grandchildren
from lastlife.takers import FirstReaching, Living, Mate, Named, Reaching, Told, Whole
from lastlife.world import AT_END, AT_LATE, AT_NEVER, DEAD, END, FIRST_FREE, LATE_AT, NEVER, START, ZERO
from tests.helpers import family

KIN, GRAND, OTHERS = Children("a"), Grandchildren("a"), Children("c")
A, B, C, BELOW = ("child", "a"), ("child", "b"), ("child", "c"), ("grand", "a")


def cast_of(*gifts, record=None):
    return chain_cast(gifts, record or family())


def gift(taker, date=None, *rules):
    return Gift("x", taker, date or Year(5), *rules)


class TestWorld(unittest.TestCase):
    def test_the_times_of_the_first_instants(self):
        self.assertEqual((AT_LATE, AT_NEVER, AT_END), ((LATE_AT, 0), (NEVER, 0), (END, 0)))
        self.assertEqual(sorted((ZERO, LATE_AT, NEVER, END, DEAD, START)), list(range(FIRST_FREE)))


class TestCast(unittest.TestCase):
    def test_a_root(self):
        for taker, sizes in ((Named("a"), {}), (Mate("a"), {}), (Told(KIN), {}), (Whole(KIN), {A: 1}),
                             (FirstReaching(KIN, 5), {A: 1}), (Living(GRAND), {A: 1, BELOW: 1})):
            self.assertEqual(cast_of(gift(taker)).sizes(None), sizes)
        self.assertEqual(cast_of(gift(Whole(KIN))).sizes(A), {A: 1})
        self.assertEqual(cast_of(gift(Living(GRAND))).sizes(BELOW), {A: 1, BELOW: 1})

    def test_class_dates(self):
        for date in (First(OTHERS, "death"), Last(OTHERS, 3), Close(Grandchildren("c")), First(OTHERS, "birth")):
            cast = cast_of(gift(Whole(OTHERS), date))
            self.assertEqual((cast.sizes(None), cast.sizes(C)), ({C: 2}, {C: 3}))
            cast = cast_of(gift(Whole(KIN), Year(4), By(date, date)))
            self.assertEqual((cast.sizes(None), cast.sizes(A), cast.sizes(C)), ({C: 1, A: 1}, {C: 1, A: 1}, {C: 2, A: 1}))
        self.assertEqual(cast_of(gift(Named("b"), First(KIN, "birth"))).sizes(None), {})
        born = family(("born", 2, "c", "k"))
        self.assertEqual(cast_of(gift(Named("b"), First(OTHERS, "birth")), record=born).sizes(None), {})
        self.assertEqual(cast_of(gift(Named("b"), First(OTHERS, "death")), record=born).sizes(None), {C: 1})

    def test_gifts_ahead(self):
        cast = cast_of(gift(Reaching(OTHERS, 4)), gift(Living(KIN)))
        self.assertEqual((cast.sizes(None), cast.sizes(A), cast.sizes(C)), ({C: 1, A: 1}, {C: 1, A: 1}, {C: 1, A: 1}))
        cast = cast_of(gift(Reaching(KIN, 4)), gift(Living(KIN)))
        self.assertEqual((cast.sizes(None), cast.sizes(A)), ({A: 2}, {A: 2}))
        cast = cast_of(gift(Told(KIN)), gift(Living(KIN)))
        self.assertEqual((cast.sizes(None), cast.sizes(A)), ({A: 1}, {A: 1}))

    def test_parents(self):
        cast = cast_of(gift(Living(GRAND)), gift(Reaching(GRAND, 3)))
        self.assertEqual((cast.sizes(None), cast.sizes(BELOW)), ({A: 1, BELOW: 2}, {A: 1, BELOW: 2}))
        self.assertEqual(cast.parent_pairs(None), [((*A, 0), (*BELOW, 0))])
        cast = cast_of(gift(Living(GRAND)), gift(Reaching(GRAND, 3), Last(KIN, 9)))
        self.assertEqual((cast.sizes(None), cast.sizes(A)), ({A: 3, BELOW: 2}, {A: 4, BELOW: 2}))
        self.assertEqual(cast.parent_pairs(None), [((*A, 1), (*BELOW, 0)), ((*A, 2), (*BELOW, 1))])

    def test_children_who_are_grandchildren(self):
        cast = cast_of(gift(Whole(Children("b"))), gift(Whole(GRAND)))
        self.assertEqual((cast.taking, cast.others), ([BELOW, B], [B]))
        self.assertEqual(cast.sizes(None), {A: 1, B: 2, BELOW: 1})
        self.assertEqual(cast.crowds(None), [[(*B, 1), (*BELOW, 0)]])

    def test_who_is_not_needed_beside_another_one(self):
        cast = cast_of(gift(Whole(Children("b"))), gift(Whole(OTHERS)), gift(Whole(KIN)))
        self.assertEqual(cast.crowds(None), [[(*B, 0), (*C, 0)], [(*B, 0), (*C, 0), (*A, 0)]])
        self.assertEqual((cast.crowds(A), cast.crowds(B)), ([[(*B, 0), (*C, 0)]], []))
        cast = cast_of(gift(Whole(OTHERS)), gift(Whole(KIN)), gift(Living(KIN)))
        self.assertEqual(cast.sizes(None), {C: 1, A: 2})
        self.assertEqual(cast.crowds(None), [[(*A, 1), (*C, 0)]])

    def test_idle_places(self):
        cast = cast_of(gift(Living(GRAND)))
        self.assertEqual((cast.is_idle(A), cast.is_idle(BELOW)), (True, False))
        cast = cast_of(gift(Living(GRAND), Last(KIN, 5)))
        self.assertFalse(cast.is_idle(A))
        cast = cast_of(gift(Whole(OTHERS)), gift(Named("a")))
        self.assertFalse(cast.is_idle(C))


if __name__ == "__main__":
    unittest.main()
