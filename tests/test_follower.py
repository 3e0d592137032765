"""Dates along a record that grows [2.10] [2.11]."""

import unittest

from lastlife.dates import Close, Death, First, Happening, Last, Survivor, Year
from lastlife.errors import BadRecord, NoLife
from lastlife.follower import Follower, has_come
from lastlife.kin import Children, Grandchildren
from lastlife.record import Record
from lastlife.years import LATE
from tests.helpers import ODD, FamilyTest, family, family_lives, small_records

KIN = Children("a")
ROWS = (("born", 2, "a", "d"), ("happened", 3, "war"), ("died", 4, "d"), ("died", 6, "a"), ("died", 9, "b"))
DATES = (
    Year(-3), Year(4), Death("a"), Survivor("a"), Happening("war"), Close(KIN), Close(Grandchildren("a")),
    First(KIN, "birth"), First(KIN, "death"), First(KIN, 13), First(KIN, 16), First(Children("b"), "birth"),
    Last(KIN, "death"), Last(KIN, 14), Death("a") + 2, Survivor("a") | Happening("war"), Death("b") & Happening("war"),
    First(KIN, 16) & Year(7), Close(KIN) | First(KIN, "death"),
)


class TestHasCome(FamilyTest):
    def test_a_date_has_come_from_its_year_on(self):
        record = family(*ROWS)
        for date, came in ((Death("a"), 6), (Happening("war"), 3), (Year(4), 4), (Death("a") + 2, 8), (Close(KIN), 7),
                           (First(KIN, "death"), 4), (Year(-3), -3), (First(KIN, 12), 2)):
            for year in range(-5, 12):
                self.assertIs(has_come(date, record, year), year >= came, (str(date), year))

    def test_a_date_that_never_comes(self):
        for year in (-3, 0, 5, 10 ** 11):
            self.assertIs(has_come(Happening("fire"), family(*ROWS), year), False)

    def test_rows_behind_the_year_do_not_count(self):
        self.assertIs(has_come(Survivor("a"), family(("died", 6, "a"), ("died", 9, "b")), 6), True)
        self.assertIs(has_come(Last(KIN, 14), family(("born", 5, "a", "d"), ("died", 6, "a")), 7), False)
        self.assertIs(has_come(Happening("war"), family(*ROWS), 2), False)

    def test_a_death_that_no_row_tells(self):
        self.assertIs(has_come(Death("c"), family(*ROWS), LATE - 1), False)
        self.assertIs(has_come(Death("c"), family(*ROWS), LATE), True)

    def test_no_life(self):
        for name in ("z", "d"):
            self.refused(NoLife, {"name": name}, has_come, Year(5) | Death(name), family(*ROWS), 4)

    def test_what_has_come_stays_and_what_has_not_come_comes_later(self):
        records = small_records(4)
        for date in DATES:
            for record in records:
                found = date.year(record)
                for year in range(0, 11):
                    early = date.year(record.until(year))
                    if has_come(date, record, year):
                        self.assertEqual((found, early), (early, found))
                        self.assertLessEqual(found, year)
                    else:
                        self.assertTrue(found is None or found > year, (str(date), record.rows, year))


class TestFollower(FamilyTest):
    def test_at_first(self):
        for date, value in ((Death("a"), LATE), (Happening("war"), None), (Year(-3), -3)):
            follower = Follower(date, family_lives())
            self.same((follower.value, follower.changes), (value, ((0, value),)))
            self.assertEqual(follower.record, family())

    def test_row_by_row(self):
        follower = Follower(First(KIN, 16), family_lives())
        wanted = [(0, 6)]
        for many, (row, value) in enumerate((
                (("born", 2, "a", "d"), 6), (("died", 3, "b"), 18), (["died", 4, "a"], 18), (("died", 9, "d"), None)), 1):
            self.assertIsNone(follower.take(row))
            if wanted[-1][1] != value:
                wanted.append((many, value))
            self.same((follower.value, follower.changes), (value, tuple(wanted)))
            self.assertEqual(len(follower.record), many)
        self.same(follower.changes, ((0, 6), (2, 18), (4, None)))
        self.assertEqual(follower.record, family(("born", 2, "a", "d"), ("died", 3, "b"), ("died", 4, "a"),
                                                 ("died", 9, "d")))

    def test_a_value_may_come_again(self):
        follower = Follower(First(KIN, 0) & Happening("war"), family_lives())
        follower.take(("happened", 3, "war"))
        self.same(follower.changes, ((0, None), (1, 3)))
        survivor = Follower(Survivor("a"), family_lives())
        for row in (("wed", 2, "a", "m"), ("wed", 3, "a", "n"), ("died", 4, "m"), ("died", 5, "a"), ("died", 7, "n")):
            survivor.take(row)
        self.same(survivor.changes, ((0, LATE), (5, 7)))

    def test_a_wrong_row_changes_nothing(self):
        follower = Follower(Death("a"), family_lives())
        follower.take(("died", 5, "a"))
        before = (follower.value, follower.changes, follower.record)
        for row, what in ((("died", 6, "a"), "dead"), (("died", 4, "b"), "order"), (("died", 6, "z"), "person"),
                          (("born", 9, "a", "x"), "dead"), *[(thing, "row") for thing in ODD]):
            self.refused(BadRecord, {"index": 1, "what": what}, follower.take, row)
            self.assertEqual((follower.value, follower.changes, follower.record), before)
        follower.take(("died", 6, "b"))
        self.same((follower.value, follower.changes), (5, ((0, LATE), (1, 5))))

    def test_no_life(self):
        for name in ("z", "d"):
            self.refused(NoLife, {"name": name}, Follower, Year(5) | Death(name) | Death("y"), family_lives())

    def test_a_row_that_is_changed_afterwards_has_no_effect(self):
        row = ["died", 5, "a"]
        follower = Follower(Death("a"), family_lives())
        follower.take(row)
        row[1] = 7
        self.same((follower.record.rows, follower.value), ((("died", 5, "a"),), 5))

    def test_followers_tell_the_same_as_whole_records(self):
        for record in small_records(3):
            for date in DATES:
                follower = Follower(date, record.lives)
                values = [follower.value]
                for row in record.rows:
                    follower.take(row)
                    values.append(follower.value)
                wanted = [date.year(Record(record.lives, record.rows[:many])) for many in range(len(record) + 1)]
                self.assertEqual(values, wanted)
                kept = [(many, value) for many, value in enumerate(wanted) if many == 0 or value != wanted[many - 1]]
                self.assertEqual(follower.changes, tuple(kept))

    def test_the_interface_stands_in_the_class(self):
        self.stands_in(Follower, "take", "value", "changes")
        for name in ("value", "changes"):
            self.assertIsInstance(vars(Follower)[name], property)


if __name__ == "__main__":
    unittest.main()
