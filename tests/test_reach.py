"""How late a gift can be open [6.1] to [6.8], [6.13]."""

import unittest

from lastlife.conditions import By, Unless
from lastlife.customs import Customs
from lastlife.dates import Close, Death, First, Happening, Last, Survivor, Year
from lastlife.deed import Deed
from lastlife.errors import BadMeasuring, BadYear, BadYears, NoGift, NoLife
from lastlife.gifts import Gift
from lastlife.kin import Children, Grandchildren
from lastlife.lateness import Reach
from lastlife.lives import Lives
from lastlife.reach import is_good, number, reach, reach_fault, two_families
from lastlife.record import Record
from lastlife.takers import FirstReaching, Living, Mate, Named, Reaching, Told, Whole
from tests.helpers import NOT_WHOLE, ODD, Always, FamilyTest, family

KIN = Children("a")
GRAND = Grandchildren("a")
WAR = Happening("war")


def lives_of(*rows, limit=21, parent_age=12, years_after=1, wed_age=0):
    return Lives(Customs(parent_age, years_after=years_after, wed_age=wed_age, limit=limit), rows)


TWO = lives_of(("a", 40, None), ("b", 30, None))
START = Record(TWO)


def deed_of(taker, date, *rules):
    return Deed(Gift("gift", taker, date, *rules))


class ReachTest(FamilyTest):
    def check(self, wanted, deed, record=START, name="gift", **more):
        """The number is so much, and all that is told of it fits."""
        found = self.quick(number, deed, name, record, **more)
        self.same(found, wanted)
        limit = record.customs.limit
        self.same(self.quick(is_good, deed, name, record, **more), wanted is not None and wanted <= limit)
        told = self.quick(reach, deed, name, record, **more)
        self.same(told.number, wanted)
        self.assertIsNone(self.quick(reach_fault, deed, name, record, told, **more))
        self.check_record(deed, name, record, told, **more)
        self.check_two_families(wanted, deed, name, record, **more)

    def check_record(self, deed, name, record, told, year=None, measuring=None):
        """The record is one of [6.2] with exactly that lag, or one above the limit."""
        if told.number == 0:
            self.assertIsNone(told.record)
            return
        year = record.end if year is None else year
        found = told.record
        self.assertEqual(found.until(year), record.until(year))
        death = found.last_death(measuring or record.lives.names)
        self.assertGreater(found.end, year)
        lag = found.end - death
        if told.number is None:
            self.assertGreater(lag, record.customs.limit)
        else:
            self.assertEqual(lag, told.number)
        takers = [set(deed.takers(name, one)) for one in told.families]
        self.assertNotEqual(takers[0], takers[1])
        self.assertEqual(told.families, (found, found.shorter()))
        self.assertLessEqual(len(found) - len(record.until(year)), 40)
        self.assertLessEqual(found.end, 10 ** 8)

    def check_two_families(self, wanted, deed, name, record, **more):
        for years in (1, 3, 30, 10 ** 6, min(wanted or 1, 10 ** 6), min((wanted or 0) + 1, 10 ** 6)):
            found = self.quick(two_families, deed, name, record, years, **more)
            self.assertEqual(found is not None, wanted is None or wanted >= years)
            if found is not None:
                self.assertGreaterEqual(found.end - found.last_death(more.get("measuring") or record.lives.names), years)
                self.assertNotEqual(set(deed.takers(name, found)), set(deed.takers(name, found.shorter())))


class TestNumbers(ReachTest):
    def test_the_example(self):
        deed = Deed(Gift("farm", Reaching(KIN, 21), Close(KIN), part=(1, 2)),
                    Gift("mill", Reaching(KIN, 25), Close(KIN), part=(1, 2)))
        self.check(21, deed, name="farm")
        self.check(25, deed, name="mill")
        self.check(None, deed, name="farm", measuring=("b",))
        self.check(21, deed, name="farm", measuring=["a"])

    def test_by_takers(self):
        for taker, date, wanted in (
                (Named("b"), Death("a"), 0), (Told(KIN), Death("a"), 0), (Whole(KIN), Death("a"), 0),
                (Whole(KIN), Close(KIN), 1), (Whole(KIN), Death("a") + 5, 1), (Living(KIN), Death("a"), 0),
                (Living(KIN), Close(KIN) + 4, 4), (Living(KIN), Death("a") + 9, 8), (Mate("a"), Death("a"), 0),
                (Living(KIN), Survivor("a"), None), (Reaching(KIN, 1), Close(KIN), 1), (Reaching(KIN, 0), Close(KIN), 1),
                (Reaching(KIN, 30), Death("a"), 29), (FirstReaching(KIN, 9), Close(KIN) + 9, 9),
                (FirstReaching(KIN, 9), Death("a") + 5, 4), (Whole(GRAND), Close(GRAND), None),
                (Whole(GRAND), Death("a") + 50, 50), (Living(GRAND), Death("a"), 0), (Told(GRAND), Year(9), 0)):
            self.check(wanted, deed_of(taker, date))

    def test_by_dates_and_conditions(self):
        b = Named("b")
        for date, rules, wanted in (
                (WAR, (), None), (WAR | (Death("b") + 7), (), 0), (Death("b"), (By(WAR, Death("b") + 7),), 7),
                (Death("b"), (Unless(WAR, Death("b") + 7),), 7), (Death("b"), (By(WAR, Death("b")),), 0),
                (Death("b"), (By(Death("a") + 3, WAR),), 2), (Death("b"), (By(WAR, Year(50)),), 49),
                (WAR & Death("a"), (By(WAR, Death("a") + 4),), 4), (First(KIN, "birth"), (), 1), (First(KIN, 10), (), 10),
                (First(KIN, "death"), (), 1), (Last(KIN, "death"), (), 0), (Survivor("a"), (), 0),
                (Survivor("a"), (By(Survivor("a"), Death("b") + 6),), 6), (Last(KIN, 8), (By(Last(KIN, 8), Close(KIN) + 7),), 8),
                (Close(GRAND), (), 0), (Close(GRAND), (By(Close(GRAND), Death("b") + 6),), 5),
                (First(KIN, 10), (By(First(KIN, 10), First(KIN, "death")),), 10)):
            self.check(wanted, deed_of(b, date, *rules))

    def test_chains(self):
        deed = Deed(Gift("one", Living(KIN), Death("a") + 3), Gift("two", Mate("b"), Death("b"), over="one"),
                    Gift("three", Named("a"), WAR | (Death("b") + 9), over="two"))
        for name, wanted in (("one", 2), ("two", 2), ("three", 2)):
            self.check(wanted, deed, name=name)
        certain = Deed(Gift("one", Named("a"), Year(0)), Gift("two", Whole(KIN), WAR, over="one"))
        self.check(0, certain, name="two")

    def test_newcomers_of_several_kins(self):
        """A child of a lives, while a child of b dies young or not; then a child of c is wanted, too."""
        lives = lives_of(("a", 40, None), ("b", 30, None), ("c", 30, None))
        ahead = Gift("one", Reaching(Children("b"), 30), Death("b"))
        wanted = By(First(Children("c"), "birth"), Death("c"))
        for rules, more in (((), ()), ((wanted,), ()), ((), (wanted,)), ((wanted,), (wanted,))):
            first = Gift("one", ahead.taker, ahead.date, *rules)
            deed = Deed(first, Gift("two", Living(KIN), Death("a") + 20, *more, over="one"))
            self.check(29, deed, Record(lives), name="two")
            self.check(29, deed, Record(lives), name="one")
        self.check(19, Deed(Gift("one", Told(KIN), Death("b")), Gift("two", Living(KIN), Death("a") + 20, over="one")),
                   Record(lives), name="two")

    def test_who_takes_ahead_as_a_child_does_not_take_as_a_grandchild(self):
        lives = lives_of(("a", 40, None), ("b", 20, "a"))
        deed = Deed(Gift("one", Whole(Children("b")), Death("b") + 5),
                    Gift("two", Whole(GRAND), Death("b") + 5, over="one"))
        record = Record(lives, (("died", 1, "a"),))
        self.check(0, deed, record, name="two", year=3)
        self.check(1, deed, record, name="one", year=3)

    def test_a_happening_may_have_the_name_of_a_life(self):
        self.check(None, deed_of(Named("b"), Happening("a")))
        self.check(3, deed_of(Named("b"), Death("a"), By(Happening("b"), Death("a") + 3)))

    def test_weddings_of_the_young_and_in_the_year_of_a_death(self):
        young = Record(lives_of(("a", 0, None), ("b", 30, None), limit=3, wed_age=50))
        self.check(None, deed_of(Mate("a"), Year(3)), young, measuring=("b",))
        lives = lives_of(("a", 40, None), ("b", 30, None), ("c", 20, None))
        record = Record(lives, (("died", 1, "c"),))
        deed = deed_of(Mate("a"), Year(0), By(Death("a"), Year(2)), By(Death("b"), Year(2)))
        self.check(1, deed, record, measuring=("c",))
        self.check(0, deed, record)

    def test_the_death_of_a_child_of_whom_nothing_else_is_asked(self):
        b = Named("b")
        for date, wanted in ((First(KIN, "death"), 6), (Last(KIN, "death"), 6)):
            self.check(wanted, deed_of(b, Death("b"), By(date, Death("b") + 6)))

    def test_measuring_lives(self):
        deed = deed_of(Living(KIN), Death("a") + 4)
        for measuring, wanted in ((("a",), 3), (("b",), None), (("a", "b"), 3), (["b", "a"], 3), (None, 3)):
            self.check(wanted, deed, measuring=measuring)

    def test_later_beginnings(self):
        deed = deed_of(Reaching(KIN, 20), Death("a"))
        record = Record(TWO, (("born", 3, "a", "k"), ("died", 5, "a"), ("died", 9, "b"), ("died", 12, "k")))
        for year, wanted in ((0, 19), (2, 19), (3, 19), (5, 16), (8, 13), (9, 13), (11, 13), (12, 0), (None, 0)):
            self.check(wanted, deed, record, year=year)
        self.check(13, deed, record.until(9), year=20)
        self.check(0, deed, record.until(9), year=22)
        self.check(17, deed, record.until(5), measuring=("a",))

    def test_a_beginning_at_which_no_child_can_come_any_more(self):
        record = Record(TWO, (("died", 5, "a"),))
        for year, wanted in ((5, 25), (6, 0)):
            self.check(wanted, deed_of(Reaching(KIN, 25), Close(KIN)), record, year=year, measuring=("a",))
        self.check(24, deed_of(Reaching(KIN, 25), Close(KIN)), record)

    def test_a_mate_or_a_member_is_dead_already(self):
        deed = deed_of(Named("b"), Death("a"), By(Survivor("a"), Death("a") + 10))
        self.check(10, deed)
        record = Record(TWO, (("wed", 2, "a", "m"), ("died", 3, "m")))
        self.check(10, deed, record)
        record = Record(TWO, (("wed", 2, "a", "m"), ("died", 3, "m"), ("died", 4, "a")))
        self.check(0, deed, record)
        # Now b can die in 5 at the earliest, and m in 14 at the latest.
        record = Record(TWO, (("wed", 2, "a", "m"), ("died", 4, "a")))
        self.check(9, deed, record)
        self.check(10, deed, record, measuring=("a",))

    def test_a_second_mate(self):
        deed = deed_of(Mate("a"), Year(3))
        self.check(0, deed)
        self.check(None, deed, measuring=("b",))

    def test_lives_who_are_members(self):
        lives = lives_of(("a", 40, None), ("b", 10, "a"), ("c", 0, "b"), parent_age=5)
        start = Record(lives)
        self.check(25, deed_of(Reaching(KIN, 25), Close(KIN)), start)
        self.check(0, deed_of(Reaching(KIN, 25), Year(0)), start)
        self.check(13, deed_of(Reaching(KIN, 25), Year(0)), start, measuring=("a",))
        self.check(23, deed_of(Reaching(GRAND, 25), Year(0)), start, measuring=("a",))

    def test_large_ages_and_years(self):
        lives = lives_of(("a", 10 ** 6, None), ("b", 0, None), limit=10 ** 6, parent_age=1000, years_after=1000,
                         wed_age=1000)
        start = Record(lives)
        self.check(10 ** 6 + 999, deed_of(Reaching(KIN, 10 ** 6), Close(KIN)), start)
        self.check(10 ** 6, deed_of(Reaching(KIN, 10 ** 6 + 0), Death("a") + 1), start)
        self.check(10 ** 6 + 999, deed_of(Reaching(KIN, 10 ** 6), Survivor("b")), start)
        self.check(None, deed_of(Living(KIN), Survivor("b")), start)
        self.check(2 * 10 ** 6, deed_of(Living(KIN), Death("a") + 10 ** 6 + 10 ** 6 + 1), start)
        self.check(10 ** 6 - 1, deed_of(Whole(KIN), Year(10 ** 6)), start, measuring=("b",))
        self.check(None, deed_of(Whole(KIN), WAR), start, year=10 ** 7)

    def test_numbers_at_the_limit_and_one_above(self):
        for limit, good in ((20, False), (21, True), (22, True)):
            start = Record(lives_of(("a", 40, None), limit=limit))
            self.same(is_good(deed_of(Reaching(KIN, 21), Close(KIN)), "gift", start), good)
        self.same(is_good(deed_of(Whole(KIN), Death("a")), "gift", Record(lives_of(("a", 40, None), limit=0))), True)
        self.check(1, deed_of(Whole(KIN), Close(KIN)), Record(lives_of(("a", 40, None), limit=0)))


class TestReachFault(FamilyTest):
    def setUp(self):
        self.deed = deed_of(Reaching(KIN, 5), Close(KIN))
        self.rows = (("died", 2, "b"), ("died", 3, "a"), ("born", 4, "a", "k"))
        self.best = Record(TWO, (*self.rows, ("died", 8, "k")))

    def judged(self, number_told, record, start=START, deed=None, **more):
        return reach_fault(deed or self.deed, "gift", start, Reach(number_told, record), **more)

    def test_right_ones(self):
        self.assertEqual(number(self.deed, "gift", START), 5)
        self.assertIsNone(self.judged(5, self.best))
        self.assertIsNone(self.judged(0, None, deed=deed_of(Named("a"), Year(4))))
        born = Record(TWO, (*self.rows[:2], ("born", 4, "a", "j"), ("born", 4, "a", "k"), ("died", 8, "j"), ("died", 8, "k")))
        self.assertIsNone(self.judged(5, born))
        self.assertIsNone(self.judged(5, self.best, self.best, year=5))
        for year, what in ((23, "lag"), (24, None), (30, None)):
            endless = Record(TWO, (("died", 2, "b"), ("born", year, "a", "k")))
            self.assertEqual(self.judged(None, endless, measuring=("b",)), what)

    def test_words(self):
        other_lives = Record(lives_of(("a", 40, None)), (("died", 3, "a"), ("born", 4, "a", "k"), ("died", 8, "k")))
        for told, record, what in (
                (True, self.best, "number"), (-1, self.best, "number"), ("5", self.best, "number"), (1.0, None, "number"),
                (False, None, "number"), (0, self.best, "record"), (5, None, "record"), (5, other_lives, "record"),
                (None, None, "record"), (5, TWO, "record"), (5, self.best.until(2), "alive"), (5, START, "alive"),
                (5, Record(TWO, (("born", 1, "a", "k"), ("died", 5, "k"))), "alive"),
                (4, self.best, "lag"), (6, self.best, "lag"), (None, self.best, "lag"), (5, self.best.until(3), "lag"),
                (1, self.best.until(3), "lag"), (5, self.best.until(4), "lag"),
                (6, Record(TWO, (*self.rows, ("died", 9, "k"))), "takers"), (1, self.best.until(4), "greatest"),
                (4, Record(TWO, (*self.rows, ("died", 7, "k"))), "greatest"), (0, None, "greatest"),
                (None, Record(TWO, (*self.rows, ("died", 30, "k"))), "takers")):
            self.assertEqual(self.judged(told, record), what, (told, record and getattr(record, "rows", None)))

    def test_agree(self):
        start = Record(TWO, (("died", 2, "b"),))
        for record, what in ((Record(TWO, (("died", 2, "a"), ("died", 3, "b"))), "agree"), (START, "agree"),
                             (Record(TWO, (("happened", 2, "war"), *self.best.rows)), "agree"), (self.best, None)):
            self.assertEqual(self.judged(5, record, start), what)
        self.assertEqual(self.judged(5, self.best, self.best, year=8), "lag")
        self.assertEqual(self.judged(5, self.best, self.best, year=9), "lag")

    def test_endless(self):
        deed = deed_of(Reaching(KIN, 30), Close(KIN))
        late = Record(TWO, (*self.rows, ("died", 33, "k")))
        self.assertIsNone(self.judged(30, late, deed=deed))
        self.assertEqual(self.judged(None, late, deed=deed), "endless")
        shown = Record(TWO, (("died", 2, "b"), ("born", 30, "a", "k")))
        self.assertEqual(self.judged(28, shown, measuring=("b",)), "greatest")
        self.assertEqual(self.judged(0, None, measuring=("b",)), "greatest")


class TestErrors(FamilyTest):
    DEED = Deed(Gift("x", Mate("p"), Death("q")), Gift("y", Named("a"), Year(4), over="x"))
    GOOD = deed_of(Named("a"), Year(4))

    def calls(self):
        for call in (number, is_good, reach):
            yield call
        yield lambda deed, name, record, **more: two_families(deed, name, record, -1, **more)
        yield lambda deed, name, record, **more: reach_fault(deed, name, record, None, **more)

    def test_the_order(self):
        for call in self.calls():
            for thing in (*ODD, "w", 1, Always()):
                self.refused(NoGift, {"name": thing}, call, self.DEED, thing, START, year=-1, measuring=())
            self.refused(NoLife, {"name": "p"}, call, self.DEED, "y", START, year=-1, measuring=())
            for thing in (-1, 10 ** 7 + 1, *[odd for odd in NOT_WHOLE if odd is not None]):
                self.refused(BadYear, {"year": thing}, call, self.GOOD, "gift", START, year=thing, measuring=())
            self.refused(BadMeasuring, {"what": "empty"}, call, self.GOOD, "gift", START, measuring=())
            self.refused(BadMeasuring, {"what": "empty"}, call, self.GOOD, "gift", START, measuring=[])

    def test_bad_measuring(self):
        record = family(("wed", 2, "a", "m"), ("born", 3, "a", "k"))
        for call in self.calls():
            for thing in (*ODD, "z", "m", "k", 1, Always()):
                self.refused(BadMeasuring, {"what": "life"}, call, self.GOOD, "gift", record, measuring=[thing])
                self.refused(BadMeasuring, {"what": "life"}, call, self.GOOD, "gift", record, measuring=("a", thing, "a"))
            self.refused(BadMeasuring, {"what": "double"}, call, self.GOOD, "gift", record, measuring=["a", "b", "a", "z"])

    def test_bad_years(self):
        for thing in (0, -1, 10 ** 6 + 1, *NOT_WHOLE):
            self.refused(BadYears, {"years": thing}, two_families, self.GOOD, "gift", START, thing)
        self.refused(BadMeasuring, {"what": "empty"}, two_families, self.GOOD, "gift", START, 0, measuring=())
        for years in (1, 10 ** 6):
            self.assertIsNone(two_families(self.GOOD, "gift", START, years))

    def test_nothing_that_is_passed_in_is_changed(self):
        measuring = ["b", "a"]
        number(self.GOOD, "gift", START, measuring=measuring)
        self.assertEqual(measuring, ["b", "a"])


if __name__ == "__main__":
    unittest.main()
