"""The results Reach and Latest [6.6] [6.11]."""

import unittest

from lastlife.lateness import Latest, Reach
from tests.helpers import FamilyTest, family

RECORD = family(("died", 5, "a"), ("died", 9, "b"))


class TestReach(FamilyTest):
    def test_arguments_are_kept(self):
        found = Reach(4, RECORD)
        self.assertEqual((found.number, found.record), (4, RECORD))
        self.same((Reach(0).number, Reach(0).record), (0, None))
        self.assertIsNone(Reach(None, RECORD).number)

    def test_properties(self):
        found = Reach(4, RECORD)
        self.same(found.is_endless, False)
        self.same(Reach(None, RECORD).is_endless, True)
        self.same(found.last_row, ("died", 9, "b"))
        self.assertEqual(found.families, (RECORD, RECORD.shorter()))
        self.assertIsInstance(found.families, tuple)
        self.same((Reach(0).last_row, Reach(0).families, Reach(0).is_endless), (None, (), False))
        short = Reach(3, RECORD.shorter())
        self.same(short.last_row, ("died", 5, "a"))
        self.assertEqual(short.families, (RECORD.shorter(), family()))

    def test_nothing_is_checked(self):
        for number in (-1, True, "x", None, 1.5):
            for record in (None, family(), RECORD):
                found = Reach(number, record)
                self.assertIs(found.number, number)
                self.assertIs(found.record, record)

    def test_equal_if_numbers_and_records_are(self):
        self.equals_only(Reach(4, RECORD), Reach(4, family(*RECORD.rows)), Reach(3, RECORD), Reach(None, RECORD),
                         Reach(4), Reach(4, family()), Latest("within", 4, RECORD))
        self.equals_only(Reach(0), Reach(0), Reach(None))
        self.stands_in(Reach, "__init__", "is_endless", "last_row", "families", "__eq__")
        self.has_no_order(Reach(1), Reach(1))


class TestLatest(FamilyTest):
    def test_arguments_are_kept(self):
        found = Latest("within", -4, RECORD)
        self.assertEqual((found.kind, found.years, found.record), ("within", -4, RECORD))
        never = Latest("never")
        self.same((never.kind, never.years, never.record), ("never", None, None))

    def test_equal_if_all_three_are(self):
        self.equals_only(Latest("within", 4, RECORD), Latest("within", 4, family(*RECORD.rows)), Latest("within", 4),
                         Latest("within", 5, RECORD), Latest("endless", 4, RECORD), Reach(4, RECORD))
        self.stands_in(Latest, "__init__", "__eq__")
        self.has_no_order(Latest("never"), Latest("never"))


if __name__ == "__main__":
    unittest.main()
