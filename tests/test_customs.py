"""Customs [1.2]."""

import unittest

from lastlife.customs import Customs
from lastlife.errors import BadCustoms
from tests.helpers import NOT_WHOLE, FamilyTest

RANGES = {"parent_age": (1, 1000), "years_after": (0, 1000), "wed_age": (0, 1000), "limit": (0, 1000000)}


class TestCustoms(FamilyTest):
    def test_defaults(self):
        customs = Customs()
        found = (customs.parent_age, customs.years_after, customs.wed_age, customs.limit)
        self.same(found, (1, 1, 0, 21))

    def test_values_are_attributes(self):
        customs = Customs(12, years_after=2, wed_age=16, limit=30)
        found = (customs.parent_age, customs.years_after, customs.wed_age, customs.limit)
        self.same(found, (12, 2, 16, 30))

    def test_only_the_parent_age_stands_by_position(self):
        self.assertRaises(TypeError, Customs, 12, 1)
        self.assertEqual(Customs(parent_age=12), Customs(12))

    def test_both_ends_of_each_range(self):
        for name, (low, high) in RANGES.items():
            for value in (low, high):
                self.same(getattr(Customs(**{name: value}), name), value)
            for value in (low - 1, high + 1):
                self.refused(BadCustoms, {"what": name}, Customs, **{name: value})

    def test_things_that_are_no_whole_numbers(self):
        for name in RANGES:
            for thing in NOT_WHOLE:
                self.refused(BadCustoms, {"what": name}, Customs, **{name: thing})

    def test_the_first_wrong_value_in_the_order_of_the_parameters(self):
        names = list(RANGES)
        for at, first in enumerate(names):
            wrong = {name: True for name in names[at:]}
            self.refused(BadCustoms, {"what": first}, Customs, **wrong)

    def test_equal_if_all_four_are(self):
        self.equals_only(Customs(2, years_after=3, wed_age=4, limit=5), Customs(2, years_after=3, wed_age=4, limit=5),
                         Customs(1, years_after=3, wed_age=4, limit=5), Customs(2, years_after=1, wed_age=4, limit=5),
                         Customs(2, years_after=3, wed_age=1, limit=5), Customs(2, years_after=3, wed_age=4, limit=1))
        self.stands_in(Customs, "__eq__")
        self.has_no_order(Customs(), Customs())


if __name__ == "__main__":
    unittest.main()
