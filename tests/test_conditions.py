"""Conditions [3.5]."""

import unittest

from lastlife.conditions import By, Condition, Unless
from lastlife.dates import Death, Earlier, Happening, Year
from lastlife.errors import BadCondition, NoLife
from lastlife.kin import Children
from tests.helpers import ODD, FamilyTest, family

NEVER = Happening("never")


class TestConditions(FamilyTest):
    def test_by_and_unless(self):
        record = family(("happened", 4, "war"), ("died", 7, "a"))
        for one, other, wanted in (
                (Year(3), Year(4), True), (Year(4), Year(4), True), (Year(5), Year(4), False),
                (Happening("war"), Death("a"), True), (Death("a"), Happening("war"), False),
                (Year(-3), Year(0), True), (Year(0), Year(-3), False), (Year(0), Year(0), True),
                (Year(5), NEVER, True), (NEVER, Year(5), False), (NEVER, NEVER, False),
                (Death("b"), NEVER, True), (Death("b"), Death("c"), True), (Death("b") + 1, Death("c"), False),
                (Death("a"), Death("b"), True), (Death("b"), Death("a"), False)):
            self.assertIs(By(one, other).holds(record), wanted, (str(one), str(other)))
            self.assertIs(Unless(one, other).holds(record), not wanted, (str(one), str(other)))

    def test_no_life_for_the_first_life_named(self):
        record = family(("born", 2, "a", "d"))
        for made in (By, Unless):
            for one, other, name in (
                    (Death("z"), Death("y"), "z"), (Death("a"), Death("y"), "y"), (NEVER, Death("y"), "y"),
                    (Earlier(Death("a"), Death("d")), Death("z"), "d"), (Death("d"), Death("a"), "d")):
                self.refused(NoLife, {"name": name}, made(one, other).holds, record)

    def test_wrong_dates(self):
        for made in (By, Unless):
            for thing in (*ODD, 5, "year 5", Year, Children("a"), By(Year(1), Year(2))):
                self.refused(BadCondition, {"what": "one"}, made, thing, Year(1))
                self.refused(BadCondition, {"what": "one"}, made, thing, thing)
                self.refused(BadCondition, {"what": "other"}, made, Year(1), thing)

    def test_fields(self):
        one, other = Death("a") | Death("c") | Year(1), Death("b") & Death("a")
        for made in (By, Unless):
            condition = made(one, other)
            self.assertEqual((condition.one, condition.other), (one, other))
            self.same(condition.lives_named, ("a", "c", "b"))
            self.same(made(other, one).lives_named, ("b", "a", "c"))
            self.same(made(Year(1), NEVER).lives_named, ())

    def test_the_other_class(self):
        one, other = Death("a"), Year(5)
        self.assertEqual(~By(one, other), Unless(one, other))
        self.assertEqual(~Unless(one, other), By(one, other))
        self.assertEqual(~~By(one, other), By(one, other))

    def test_equal_if_class_and_dates_are(self):
        one, other = Death("a"), Year(5)
        self.equals_only(By(one, other), By(Death("a"), Year(5)), By(other, one), By(one, Year(6)),
                         By(Death("b"), other), Unless(one, other))
        self.equals_only(Unless(one, other), Unless(Death("a"), Year(5)), Unless(other, one), Unless(one, Year(6)),
                         Unless(Death("b"), other), By(one, other))
        self.has_no_order(By(one, other), By(one, other))

    def test_texts(self):
        one, other = Death("a") + 5, Year(5) | NEVER
        self.same(str(By(one, other)), "by((death of a plus 5), earlier(year 5, happening never))")
        self.same(str(Unless(other, one)), "unless(earlier(year 5, happening never), (death of a plus 5))")

    def test_the_interface_stands_in_each_class(self):
        for made in (By, Unless):
            self.assertTrue(issubclass(made, Condition))
            self.stands_in(made, "__init__", "holds", "__invert__", "__eq__", "__str__")


if __name__ == "__main__":
    unittest.main()
