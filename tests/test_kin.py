"""Kins [2.1]."""

import unittest

from lastlife.customs import Customs
from lastlife.errors import BadKin, NoLife
from lastlife.kin import Children, Grandchildren, Kin
from lastlife.lives import Lives
from lastlife.record import Record
from lastlife.years import LATE
from tests.helpers import NOT_NAMES, FamilyTest, family

# b is a child of a and a life; x and y are grandchildren ahead of and behind one another's parents.
ROWS = (
    ("born", 2, "a", "d"), ("wed", 2, "a", "m"), ("born", 3, "d", "x"), ("born", 4, "b", "e"), ("born", 5, "d", "aa"),
    ("born", 6, "a", "f"),
)


class TestKin(FamilyTest):
    def test_both_are_kins_with_a_life(self):
        for kin in (Children, Grandchildren):
            self.assertTrue(issubclass(kin, Kin))
            self.same(kin("a").life, "a")
            self.stands_in(kin, "__init__", "members", "closing", "__eq__", "__str__")

    def test_a_life_is_a_name(self):
        for kin in (Children, Grandchildren):
            for thing in NOT_NAMES:
                self.refused(BadKin, {"what": "life"}, kin, thing)

    def test_members_of_children(self):
        record = family(*ROWS)
        self.same(Children("a").members(record), ("b", "d", "f"))
        self.same(Children("b").members(record), ("e",))
        self.same(Children("c").members(record), ())

    def test_members_of_grandchildren_in_the_order_of_the_persons(self):
        record = family(*ROWS)
        self.same(Grandchildren("a").members(record), ("x", "e", "aa"))
        self.same(Grandchildren("b").members(record), ())

    def test_lives_are_grandchildren_too(self):
        lives = Lives(Customs(), (("a", 60, None), ("b", 40, "a"), ("c", 20, "b"), ("d", 30, "a")))
        record = Record(lives, (("born", 1, "d", "e"),))
        self.same(Grandchildren("a").members(record), ("c", "e"))

    def test_closing_of_children(self):
        for years_after in (0, 1, 7):
            customs = Customs(years_after=years_after)
            self.same(Children("a").closing(family(customs=customs)), LATE + years_after)
            record = family(("died", 5, "a"), ("died", 9, "b"), customs=customs)
            self.same(Children("a").closing(record), 5 + years_after)

    def test_closing_of_grandchildren(self):
        kin = Grandchildren("a")
        self.same(kin.closing(family()), LATE + 1)
        self.same(kin.closing(family(("died", 5, "a"))), LATE + 1)
        self.same(kin.closing(family(("died", 5, "b"))), LATE + 1)
        self.same(kin.closing(family(("died", 5, "a"), ("died", 9, "b"))), 10)
        self.same(kin.closing(family(("died", 5, "b"), ("died", 9, "a"))), 10)
        rows = (("born", 3, "a", "d"), ("died", 5, "a"), ("died", 9, "b"))
        self.same(kin.closing(family(*rows)), LATE + 1)
        self.same(kin.closing(family(*rows, ("died", 12, "d"), customs=Customs(years_after=4))), 16)
        self.same(Grandchildren("c").closing(family(("died", 4, "c"))), 5)

    def test_no_life(self):
        record = family(("born", 2, "a", "d"), ("wed", 3, "a", "m"))
        for name in ("z", "d", "m"):
            for kin in (Children(name), Grandchildren(name)):
                self.refused(NoLife, {"name": name}, kin.members, record)
                self.refused(NoLife, {"name": name}, kin.closing, record)

    def test_equal_if_class_and_life_are(self):
        self.equals_only(Children("a"), Children("a"), Children("b"), Grandchildren("a"))
        self.equals_only(Grandchildren("a"), Grandchildren("a"), Grandchildren("b"), Children("a"))
        self.has_no_order(Children("a"), Children("a"))

    def test_text(self):
        self.same(str(Children("a")), "children of a")
        self.same(str(Grandchildren("abc")), "grandchildren of abc")


if __name__ == "__main__":
    unittest.main()
