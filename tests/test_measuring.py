"""Which lives measure a gift well [6.9] [6.10]."""

import unittest

from lastlife.customs import Customs
from lastlife.dates import Close, Death, Happening, Survivor, Year
from lastlife.deed import Deed
from lastlife.errors import NoGift, NoLife
from lastlife.gifts import Gift
from lastlife.kin import Children
from lastlife.lives import Lives
from lastlife.measuring import is_alone, measuring_sets, measuring_table
from lastlife.reach import number
from lastlife.record import Record
from lastlife.takers import Living, Named, Reaching, Whole
from tests.helpers import ODD, Always, FamilyTest
from tests.samples import Dice

KIN = Children("a")


def lives_of(many, limit=21):
    return Lives(Customs(12, limit=limit), [(name, 40, None) for name in "abcdef"[:many]])


def deed_of(taker, date):
    return Deed(Gift("gift", taker, date))


class TestMeasuringTable(FamilyTest):
    def test_the_sets_and_their_order(self):
        found = measuring_table(deed_of(Named("a"), Year(5)), "gift", lives_of(3))
        self.same(found, ((("a",), 0), (("b",), 0), (("c",), 0), (("a", "b"), 0), (("a", "c"), 0), (("b", "c"), 0),
                          (("a", "b", "c"), 0)))
        four = measuring_table(deed_of(Named("a"), Year(5)), "gift", lives_of(4))
        self.assertEqual(["".join(names) for names, _ in four], "a b c d ab ac ad bc bd cd abc abd acd bcd abcd".split())
        self.same(measuring_table(deed_of(Named("a"), Year(5)), "gift", lives_of(1)), ((("a",), 0),))

    def test_numbers(self):
        found = measuring_table(deed_of(Reaching(KIN, 25), Close(KIN)), "gift", lives_of(2))
        self.same(found, ((("a",), 25), (("b",), None), (("a", "b"), 25)))
        found = measuring_table(deed_of(Named("a"), Happening("war")), "gift", lives_of(2))
        self.same(found, ((("a",), None), (("b",), None), (("a", "b"), None)))
        found = measuring_table(deed_of(Living(KIN), Death("a") & Death("b")), "gift", lives_of(2))
        self.same(found, ((("a",), None), (("b",), None), (("a", "b"), 0)))

    def test_it_is_the_table_of_the_numbers(self):
        for seed in range(2001, 2061):
            dice = Dice(seed)
            lives = dice.lives()
            deed = dice.deed(lives)
            name = deed.names[-1]
            for names, found in self.quick(measuring_table, deed, name, lives):
                self.assertEqual(found, number(deed, name, Record(lives), measuring=names))


class TestMeasuringSets(FamilyTest):
    def test_sets(self):
        for deed, limit, wanted in (
                (deed_of(Reaching(KIN, 21), Close(KIN)), 21, (("a",),)), (deed_of(Reaching(KIN, 21), Close(KIN)), 20, ()),
                (deed_of(Named("a"), Year(5)), 0, (("a",), ("b",), ("c",))),
                (deed_of(Living(KIN), Death("a") & Death("b")), 0, (("a", "b"),)),
                (deed_of(Named("a"), Happening("war")), 21, ()), (deed_of(Whole(KIN), Year(10)), 10, (("a",), ("b",), ("c",))),
                (deed_of(Whole(KIN), Year(10)), 9, (("a",), ("b",), ("c",))),
                (deed_of(Whole(KIN), Year(10)), 8, (("a",),)), (deed_of(Living(KIN), Survivor("b")), 21, ())):
            self.same(measuring_sets(deed, "gift", lives_of(3, limit)), wanted)

    def test_they_are_those_of_the_table(self):
        for seed in range(2061, 2121):
            dice = Dice(seed)
            lives = dice.lives()
            deed = dice.deed(lives)
            name = deed.names[-1]
            good = [names for names, found in measuring_table(deed, name, lives)
                    if found is not None and found <= lives.customs.limit]
            least = [names for names in good if not any(set(other) < set(names) for other in good)]
            found = self.quick(measuring_sets, deed, name, lives)
            self.assertEqual(list(found), least)
            for life in lives.names:
                self.same(self.quick(is_alone, deed, name, lives, life), (life,) in found)

    def test_is_alone(self):
        deed = deed_of(Reaching(KIN, 21), Close(KIN))
        self.same((is_alone(deed, "gift", lives_of(2), "a"), is_alone(deed, "gift", lives_of(2), "b")), (True, False))
        self.same(is_alone(deed, "gift", lives_of(2, 20), "a"), False)


class TestErrors(FamilyTest):
    def test_no_gift_and_no_life(self):
        deed = Deed(Gift("x", Named("p"), Death("q")), Gift("y", Named("a"), Year(4), over="x"))
        for call in (measuring_table, measuring_sets):
            for thing in (*ODD, "w", 1, Always()):
                self.refused(NoGift, {"name": thing}, call, deed, thing, lives_of(1))
            self.refused(NoLife, {"name": "p"}, call, deed, "y", lives_of(1))

    def test_is_alone(self):
        deed = Deed(Gift("x", Named("p"), Death("q"), part=(1, 2)), Gift("y", Named("a"), Year(4), part=(1, 2)))
        self.refused(NoGift, {"name": "z"}, is_alone, deed, "z", lives_of(1), "u")
        self.refused(NoLife, {"name": "p"}, is_alone, deed, "x", lives_of(1), "u")
        for thing in (*ODD, "u", 1, Always()):
            self.refused(NoLife, {"name": thing}, is_alone, deed, "y", lives_of(1), thing)


if __name__ == "__main__":
    unittest.main()
