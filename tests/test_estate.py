"""Shares, heirs and what is held [3.10] [3.11]."""

import unittest

from lastlife.conditions import By
from lastlife.customs import Customs
from lastlife.dates import Death, Happening, Year
from lastlife.deed import Deed
from lastlife.errors import BadYear, NoGift, NoLife
from lastlife.estate import course, heirs, held, holders, rest, shares, unheld
from lastlife.gifts import Gift
from lastlife.kin import Children, Grandchildren
from lastlife.lives import Lives
from lastlife.ratios import added
from lastlife.record import Record
from lastlife.takers import Living, Mate, Named, Whole
from lastlife.years import LATE, MOST_YEAR
from tests.helpers import NOT_WHOLE, FamilyTest, family, small_records

KIN = Children("a")
NEVER = Happening("never")


def two_lives(*rows):
    return Record(Lives(Customs(), [("a", 40, None), ("b", 10, "a")]), rows)


class TestShares(FamilyTest):
    def test_the_example(self):
        deed = Deed(Gift("house", Named("b"), Year(7), part=(2, 6)),
                    Gift("land", Living(KIN), Death("a"), part=(1, 2)))
        record = two_lives(("born", 2, "a", "c"), ("died", 5, "a"), ("died", 9, "c"))
        self.same(heirs(deed, record), (("b", (7, 12)), ("c", (1, 4))))
        self.same(rest(deed, record), (1, 6))
        self.same(shares(deed, "land", record), (("b", (1, 2)), ("c", (1, 2))))
        self.same(shares(deed, "house", record), (("b", (1, 1)),))

    def test_nobody(self):
        deed = Deed(Gift("house", Named("b"), NEVER), Gift("land", Mate("a"), Death("a"), over="house"))
        self.same((shares(deed, "house", family()), heirs(deed, family()), rest(deed, family())), ((), (), (1, 1)))

    def test_a_gift_over_another_one_passes_on_the_part_of_its_root(self):
        deed = Deed(Gift("house", Named("b"), NEVER, part=(2, 3)), Gift("land", Whole(KIN), Year(9), over="house"))
        record = family(("born", 2, "a", "d"), ("born", 3, "a", "e"))
        self.same(heirs(deed, record), (("b", (2, 9)), ("d", (2, 9)), ("e", (2, 9))))
        self.same(rest(deed, record), (1, 3))

    def test_heirs_stand_in_the_order_of_the_persons(self):
        deed = Deed(Gift("house", Named("c"), Year(1), part=(1, 2)), Gift("land", Named("a"), Year(1), part=(1, 4)),
                    Gift("mill", Mate("a"), Year(1), part=(1, 4)))
        record = family(("wed", 2, "a", "m"))
        self.same(heirs(deed, record), (("a", (1, 4)), ("c", (1, 2)), ("m", (1, 4))))
        self.same(rest(deed, record), (0, 1))

    def test_they_sum_to_one(self):
        deed = Deed(Gift("house", Living(KIN), Death("a"), By(Happening("war"), Death("a")), part=(1, 2)),
                    Gift("land", Mate("a"), Death("b"), over="house"), Gift("mill", Whole(KIN), Year(6), part=(1, 3)))
        for record in small_records(3):
            rows = heirs(deed, record)
            self.assertEqual(added(rest(deed, record), *[part for _, part in rows]), (1, 1))
            self.assertEqual([person for person in record.persons if person in dict(rows)], [row[0] for row in rows])

    def test_errors(self):
        deed = Deed(Gift("house", Named("b"), Death("q"), part=(1, 2)),
                    Gift("land", Named("p"), Year(1), part=(1, 2), until=Death("s")))
        self.refused(NoGift, {"name": "x"}, shares, deed, "x", family())
        self.refused(NoLife, {"name": "q"}, shares, deed, "house", family())
        self.refused(NoLife, {"name": "p"}, shares, deed, "land", family())
        self.refused(NoLife, {"name": "q"}, heirs, deed, family())
        self.refused(NoLife, {"name": "q"}, rest, deed, family())
        deed = Deed(Gift("house", Named("b"), Year(1), until=Death("s")))
        self.same(heirs(deed, family()), (("b", (1, 1)),))


class TestHeld(FamilyTest):
    def test_the_example(self):
        deed = Deed(Gift("use", Mate("a"), Death("a"), until=Death("b"), part=(1, 2)),
                    Gift("farm", Named("b"), Year(7), part=(1, 2)))
        record = two_lives(("wed", 1, "a", "m"), ("died", 5, "a"), ("died", 9, "b"))
        half = (1, 2)
        self.same(course(deed, record), ((0, ()), (5, (("m", half),)), (7, (("b", half), ("m", half))),
                                         (9, (("b", half),))))
        self.same(held(deed, record, 8), (("b", half), ("m", half)))
        self.same((unheld(deed, record, 4), unheld(deed, record, 8), unheld(deed, record, 9)), ((1, 1), (0, 1), half))

    def test_holders_from_the_date_up_to_the_year_ahead_of_until(self):
        for until, years in ((None, (5, 6, 99, MOST_YEAR)), (NEVER, (5, 6, 99, MOST_YEAR)), (Year(7), (5, 6)),
                             (Year(6), (5,)), (Year(5), ()), (Year(4), ()), (Year(-9), ())):
            deed = Deed(Gift("use", Named("b"), Year(5), until=until))
            found = [year for year in (0, 4, 5, 6, 7, 99, MOST_YEAR) if holders(deed, "use", family(), year)]
            self.assertEqual([year for year in found if year != 7], list(years), until)
            self.assertEqual(7 in found, until in (None, NEVER))

    def test_who_never_takes_never_holds(self):
        for gift in (Gift("use", Named("b"), Year(5), By(Year(2), Year(1))), Gift("use", Named("b"), NEVER)):
            deed = Deed(gift)
            self.same((holders(deed, "use", family(), 9), held(deed, family(), 9), course(deed, family())),
                      ((), (), ((0, ()),)))

    def test_dates_ahead_of_year_0_and_behind_the_last_year(self):
        deed = Deed(Gift("use", Named("b"), Year(-5), until=Year(0), part=(1, 2)),
                    Gift("farm", Named("b"), Year(-5), part=(1, 4)), Gift("mill", Named("c"), Death("a"), part=(1, 4)))
        self.same(course(deed, family()), ((0, (("b", (1, 4)),)),))
        self.same(held(deed, family(), MOST_YEAR), (("b", (1, 4)),))
        late = family(("died", MOST_YEAR, "a"))
        self.same(course(deed, late)[1:], ((MOST_YEAR, (("b", (1, 4)), ("c", (1, 4)))),))

    def test_a_gift_that_is_held_from_the_first_year_on(self):
        deed = Deed(Gift("use", Named("b"), Year(1), until=Year(2), part=(1, 2)))
        self.same(course(deed, family()), ((0, ()), (1, (("b", (1, 2)),)), (2, ())))

    def test_a_change_that_changes_nothing_is_no_turn(self):
        deed = Deed(Gift("use", Named("b"), Year(3), until=Year(6), part=(1, 2)),
                    Gift("farm", Named("b"), Year(6), part=(1, 2)))
        self.same(course(deed, family()), ((0, ()), (3, (("b", (1, 2)),))))

    def test_both_dates_are_read_in_the_whole_record(self):
        deed = Deed(Gift("use", Mate("a"), Year(2), until=Death("a")))
        record = family(("wed", 5, "a", "m"), ("died", 8, "a"))
        self.same(course(deed, record), ((0, ()), (2, (("m", (1, 1)),)), (8, ())))

    def test_the_course_tells_what_is_held_at_each_year(self):
        deed = Deed(Gift("use", Living(KIN), Death("a"), until=Death("b") + 1, part=(1, 2)),
                    Gift("farm", Whole(Grandchildren("a")), Year(4), part=(1, 3), until=Happening("war")),
                    Gift("rest", Mate("a"), Year(2), over="farm", until=Death("c")))
        for record in small_records(3):
            rows = course(deed, record)
            self.assertEqual(rows[0], (0, held(deed, record, 0)))
            years = [year for year, _ in rows]
            self.assertEqual(years, sorted(set(years)))
            for year in range(1, 12):
                now, before = held(deed, record, year), held(deed, record, year - 1)
                self.assertEqual(dict(rows).get(year), now if now != before else None)
                self.assertEqual(added(unheld(deed, record, year), *[part for _, part in now]), (1, 1))

    def test_bad_years(self):
        deed = Deed(Gift("use", Named("b"), Year(5)))
        for thing in (-1, MOST_YEAR + 1, LATE, *NOT_WHOLE):
            self.refused(BadYear, {"year": thing}, holders, deed, "use", family(), thing)
            self.refused(BadYear, {"year": thing}, held, deed, family(), thing)
            self.refused(BadYear, {"year": thing}, unheld, deed, family(), thing)

    def test_the_order_of_the_errors(self):
        deed = Deed(Gift("use", Named("b"), Year(5), until=Death("q"), part=(1, 2)),
                    Gift("farm", Named("p"), Year(5), part=(1, 2)))
        self.refused(NoGift, {"name": "x"}, holders, deed, "x", family(), -1)
        self.refused(NoLife, {"name": "p"}, holders, deed, "farm", family(), -1)
        self.refused(NoLife, {"name": "q"}, holders, deed, "use", family(), -1)
        for call in (held, unheld):
            self.refused(NoLife, {"name": "q"}, call, deed, family(), -1)
        self.refused(NoLife, {"name": "q"}, course, deed, family())
        deed = Deed(Gift("use", Named("b"), Death("r"), until=Death("q")))
        self.refused(NoLife, {"name": "r"}, held, deed, family(), 1)
        deed = Deed(Gift("use", Named("p"), Death("r"), until=Death("q")))
        self.refused(NoLife, {"name": "p"}, held, deed, family(), 1)
        self.refused(NoLife, {"name": "p"}, course, deed, family())
        ahead = Deed(Gift("use", Named("b"), Year(5), until=Death("q")), Gift("farm", Named("c"), Year(5), over="use"))
        self.same(holders(ahead, "farm", family(), 6), ())


if __name__ == "__main__":
    unittest.main()
