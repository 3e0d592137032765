"""How far records agree [0.2] [1.13]."""

import inspect
import unittest

from lastlife.agreement import agree, beginnings, last_common_year
from lastlife.customs import Customs
from lastlife.errors import OtherLives
from lastlife.record import Record
from tests.helpers import FamilyTest, family, small_records

ROWS = (("born", 2, "a", "d"), ("wed", 2, "a", "m"), ("died", 5, "a"), ("died", 5, "b"))


class TestAgreement(FamilyTest):
    def test_agree_up_to_a_year(self):
        one, other = family(*ROWS), family(*ROWS[:2], ("died", 6, "a"))
        for year, wanted in ((-1, True), (0, True), (2, True), (4, True), (5, False), (6, False), (10 ** 11, False)):
            self.assertIs(agree(one, other, year), wanted, year)
            self.assertIs(agree(other, one, year), wanted, year)

    def test_agree_with_itself_and_its_beginning(self):
        self.assertIs(agree(family(*ROWS), family(*ROWS), 10 ** 11), True)
        self.assertIs(agree(family(*ROWS), family(*ROWS).until(4), 4), True)
        self.assertIs(agree(family(*ROWS), family(*ROWS).until(4), 5), False)

    def test_rows_of_one_year_agree_all_or_not_at_all(self):
        self.assertIs(agree(family(*ROWS), family(*ROWS[:3]), 4), True)
        self.assertIs(agree(family(*ROWS), family(*ROWS[:3]), 5), False)

    def test_records_with_other_lives_never_agree(self):
        for year in (-1, 0, 9):
            self.assertIs(agree(family(), family(customs=Customs(2)), year), False)
            self.assertIs(agree(family(*ROWS), family(*ROWS, customs=Customs(limit=3)), year), False)
        self.assertIs(agree(family(customs=Customs(2)), family(customs=Customs(2)), 3), True)

    def test_beginnings(self):
        self.assertTrue(inspect.isgeneratorfunction(beginnings))
        found = list(beginnings(family(*ROWS)))
        self.assertEqual(found, [family(*ROWS[:many]) for many in range(5)])
        for record in found:
            self.assertIsInstance(record, Record)
        self.assertEqual(list(beginnings(family())), [family()])

    def test_last_common_year(self):
        record = family(*ROWS)
        for other, wanted in (
                (record, None), (family(*ROWS), None), (family(), 1), (family(*ROWS[:1]), 1), (family(*ROWS[:2]), 4),
                (family(*ROWS[:3]), 4), (family(*ROWS, ("died", 9, "c")), 8),
                (family(*ROWS[:2], ("died", 7, "a")), 4), (family(*ROWS[:2], ("died", 3, "c")), 2),
                (family(*ROWS[:2], ("happened", 5, "war")), 4), (family(("born", 2, "a", "x")), 1),
                (family(("died", 1, "a")), 0)):
            self.same(last_common_year(record, other), wanted)
            self.same(last_common_year(other, record), wanted)

    def test_last_common_year_of_records_with_other_lives(self):
        for rows in ((), ROWS):
            self.refused(OtherLives, {}, last_common_year, family(*rows), family(*rows, customs=Customs(3)))

    def test_it_is_the_greatest_year_up_to_which_they_agree(self):
        records = small_records(2)
        for one in records:
            for other in records:
                year = last_common_year(one, other)
                if year is None:
                    self.assertEqual(one, other)
                else:
                    self.assertEqual((agree(one, other, year), agree(one, other, year + 1)), (True, False))


if __name__ == "__main__":
    unittest.main()
