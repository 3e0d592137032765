"""How late a date can come [6.11] to [6.13]."""

import unittest

from lastlife.customs import Customs
from lastlife.dates import (Close, Death, Earlier, First, Happening, Last, Later, Plus, Survivor, Year)
from lastlife.errors import BadMeasuring, BadYear, NoLife
from lastlife.kin import Children, Grandchildren
from lastlife.lateness import Latest
from lastlife.latest import latest, latest_fault
from lastlife.lives import Lives
from lastlife.record import Record
from lastlife.years import LATE
from tests.helpers import NOT_WHOLE, ODD, Always, FamilyTest, family
from tests.samples import Dice, futures

KIN = Children("a")
GRAND = Grandchildren("a")
TWO = Lives(Customs(12, years_after=1, limit=21), (("a", 40, None), ("b", 30, None)))
START = Record(TWO)
WAR = Happening("war")


class TestLatest(FamilyTest):
    def check(self, kind, years, date, record=START, **more):
        """The kind and the years are these, and the record shows them."""
        found = self.quick(latest, date, record, **more)
        self.assertIs(found.__class__, Latest)
        self.assertEqual((found.kind, found.years), (kind, years), str(date))
        if years is not None:
            self.same(found.years, years)
        self.assertIsNone(latest_fault(date, record, found, **more), str(date))
        if kind == "never":
            self.assertIsNone(found.record)
        else:
            since = record.end if more.get("year") is None else more["year"]
            self.assertEqual(found.record.until(since), record.until(since))
            delay = date.year(found.record) - found.record.last_death(more.get("measuring") or record.lives.names)
            self.assertTrue(delay == years if kind == "within" else delay > record.customs.limit)

    def test_the_example(self):
        self.check("within", 6, Close(KIN) + 5)

    def test_dates_without_inner_ones(self):
        for date, kind, years in (
                (Year(5), "within", 4), (Year(-3), "within", -4), (Year(0), "within", -1), (Death("a"), "within", 0),
                (Survivor("a"), "endless", None), (WAR, "endless", None), (Close(KIN), "within", 1),
                (Close(GRAND), "endless", None), (First(KIN, "birth"), "within", 1), (First(KIN, "death"), "endless", None),
                (First(KIN, 7), "within", 8), (Last(KIN, 7), "within", 8), (Last(KIN, "death"), "endless", None)):
            self.check(kind, years, date)

    def test_dates_with_inner_ones(self):
        for date, kind, years in (
                (Plus(Death("a"), 9), "within", 9), (Earlier(WAR, Death("b") + 3), "within", 3),
                (Later(WAR, Death("b") + 3), "endless", None), (Later(Death("a"), Death("b")), "within", 0),
                (Earlier(WAR, Happening("fire")), "endless", None), (Earlier(Death("a"), Year(9)), "within", 0),
                (Earlier(Death("a"), Year(-9)), "within", -10), (Earlier(Last(KIN, 30), Death("b") + 50), "within", 31)):
            self.check(kind, years, date)

    def test_other_measuring_lives(self):
        self.check("endless", None, Death("a"), measuring=("b",))
        self.check("within", 0, Death("a"), measuring=["a"])
        self.check("within", 0, Death("a"), measuring=("b", "a"))
        self.check("within", 4, Year(5), measuring=("b",))

    def test_a_date_that_never_comes(self):
        old = Record(Lives(Customs(12, years_after=0), (("a", 40, None),)), (("died", 5, "a"),))
        for date in (First(KIN, "birth"), First(KIN, "death"), First(KIN, 3), First(KIN, 3) + 2, WAR & First(KIN, 3)):
            self.check("never", None, date, old)
        self.check("within", 0, First(KIN, 3) | Death("a"), old)
        young = old.until(4).after(("born", 4, "a", "k"), ("died", 5, "a"), ("died", 6, "k"))
        self.check("never", None, First(KIN, 3), young)
        self.check("within", 1, First(KIN, "death"), young)

    def test_a_date_ahead_of_the_last_death(self):
        record = Record(TWO, (("died", 9, "a"),))
        self.check("within", -1, Death("a"), record)
        self.check("within", -5, Death("a"), record.until(9), year=13)
        self.check("within", 0, Death("a"), record.after(("died", 9, "b")))
        self.check("within", -3, Death("a"), record.after(("died", 12, "b")))
        self.check("within", -4, Year(5), record, measuring=("a",))

    def test_years_of_late_or_more_have_no_bound(self):
        shown = latest(Survivor("a"), START).record
        self.assertTrue(Survivor("a").year(shown) > 21)
        self.check("endless", None, Death("a") + 5, measuring=("b",))
        unknown = Record(TWO, (("died", 3, "b"),))
        found = Latest("endless", None, unknown)
        self.assertEqual(Death("a").year(unknown), LATE)
        self.assertIsNone(latest_fault(Death("a"), START, found, measuring=("b",)))

    def test_records_without_a_row_behind_the_year(self):
        record = Record(TWO, (("died", 5, "a"), ("died", 7, "b")))
        found = latest(Death("a") + 9, record)
        self.assertEqual((found.kind, found.years), ("within", 7))
        self.assertIsNone(latest_fault(Death("a") + 9, record, Latest("within", 7, record)))
        self.check("within", 7, Death("a") + 9, record, year=6)
        self.check("within", 8, Death("a") + 9, record, year=5)
        self.check("within", 9, Death("a") + 9, record, year=4)

    def test_newcomers(self):
        lives = Lives(Customs(2, years_after=1, limit=3), (("a", 40, None),))
        record = Record(lives, (("born", 1, "a", "k"), ("died", 5, "a")))
        self.check("within", 3, Last(KIN, 2), record)
        self.check("within", -2, First(KIN, 2), record)
        self.check("endless", None, Close(GRAND), record)
        self.check("endless", None, Close(GRAND), record.after(("died", 5, "k")))
        self.check("within", 1, Close(GRAND), record.after(("died", 5, "k")), year=6)
        self.check("endless", None, First(KIN, "death"), record)


class TestSmallWorlds(FamilyTest):
    def test_no_record_has_a_greater_delay(self):
        lives = Lives(Customs(1, years_after=1, limit=2), (("a", 4, None), ("b", 2, "a")))
        record = Record(lives, (("wed", 1, "a", "m"), ("born", 2, "a", "k"), ("died", 3, "b"), ("died", 4, "a")))
        dates = (Year(3), Death("a") + 1, Survivor("a"), WAR | (Death("b") + 2), Close(KIN), Close(GRAND), First(KIN, 2),
                 First(KIN, "death"), Last(KIN, "death") | (Death("a") + 3), Last(KIN, 3), First(KIN, "birth"))
        for year in range(5):
            self.hold(dates, futures(record, year, 2, 4), record, year, (("a", "b"), ("a",), ("b",)))

    def hold(self, dates, ahead, record, year, sets):
        for date in dates:
            for measuring in sets:
                told = latest(date, record, year=year, measuring=measuring)
                self.assertIsNone(latest_fault(date, record, told, year=year, measuring=measuring))
                for one in ahead:
                    death, came = one.last_death(measuring), date.year(one)
                    if death < LATE and came is not None:
                        self.assertNotEqual(told.kind, "never")
                        if told.kind == "within":
                            self.assertLess(came, LATE)
                            self.assertLessEqual(came - death, told.years)

    def test_dates_by_chance(self):
        for seed in range(3001, 3081):
            dice = Dice(seed)
            lives = dice.lives(3)
            record = dice.record(lives)
            dates = [dice.date(lives.names) for _ in range(3)]
            if len(record) + len(record.persons) < 9:
                ahead = futures(record, record.end, 1, 6)
                self.hold(dates, ahead, record, record.end, (lives.names, lives.names[:1]))


class TestLatestFault(FamilyTest):
    BEST = Record(TWO, (("died", 2, "a"), ("died", 2, "b")))

    def judged(self, *told, date=Year(6), record=START, **more):
        return latest_fault(date, record, Latest(*told), **more)

    def test_right_ones(self):
        one = Record(TWO, (("died", 1, "a"), ("died", 1, "b")))
        more = Record(TWO, (("died", 1, "a"), ("died", 1, "b"), ("happened", 900, "war")))
        for record in (one, more):
            self.assertIsNone(self.judged("within", 5, record))
        for at, what in ((23, None), (22, "date")):
            late = Record(TWO, (("died", 1, "a"), ("died", 1, "b"), ("happened", at, "war")))
            self.assertIs(self.judged("endless", None, late, date=WAR), what)
        old = Record(Lives(Customs(12, years_after=0), (("a", 40, None),)), (("died", 5, "a"),))
        self.assertIsNone(self.judged("never", None, None, date=First(KIN, 3), record=old))

    def test_words(self):
        one = Record(TWO, (("died", 1, "a"), ("died", 1, "b")))
        other_lives = Record(Lives(Customs(), (("a", 40, None), ("b", 30, None))), one.rows)
        for told, what in (
                (("Within", 5, one), "kind"), (("", 5, one), "kind"), ((None, "x", 3), "kind"), ((["never"], None, None), "kind"),
                (("within", None, one), "years"), (("within", True, one), "years"), (("within", "5", one), "years"),
                (("never", 0, None), "years"), (("endless", 5, one), "years"), (("never", 5, one), "years"),
                (("never", None, one), "record"), (("within", 5, None), "record"), (("within", 5, other_lives), "record"),
                (("endless", None, TWO), "record"), (("within", 5, one.shorter()), "alive"),
                (("within", 4, one), "date"), (("within", 6, one), "date"), (("endless", None, one), "date"),
                (("within", 4, self.BEST), "greatest"), (("never", None, None), "greatest")):
            self.assertEqual(self.judged(*told), what, told[:2])

    def test_agree_comes_ahead_of_alive(self):
        start = Record(TWO, (("died", 1, "b"),))
        self.assertEqual(self.judged("within", 5, START, record=start), "agree")
        self.assertEqual(self.judged("within", 5, Record(TWO, (("died", 1, "a"),)), record=start), "agree")
        self.assertEqual(self.judged("within", 5, start, record=start), "alive")

    def test_never_and_late_dates(self):
        one = Record(TWO, (("died", 1, "a"), ("died", 1, "b")))
        self.assertEqual(self.judged("within", 5, one, date=WAR), "date")
        self.assertEqual(self.judged("endless", None, one, date=WAR), "date")
        self.assertEqual(self.judged("within", LATE - 1, one.until(0).after(("died", 1, "b")), date=Death("a"),
                                     measuring=("b",)), "date")
        far = Record(TWO, (("died", 1, "b"), ("died", 40, "a")))
        self.assertEqual(self.judged("within", 39, far, date=Death("a"), measuring=("b",)), "greatest")
        grown = Record(TWO, (("died", 1, "a"), ("died", 1, "b"), ("happened", 40, "war")))
        self.assertEqual(self.judged("endless", None, grown, date=WAR | Year(60)), "greatest")
        self.assertIsNone(self.judged("endless", None, grown, date=WAR))


class TestErrors(FamilyTest):
    def test_the_order(self):
        for call in (latest, lambda date, record, **more: latest_fault(date, record, None, **more)):
            date = Later(Death("p"), Happening("q"), Survivor("r"))
            self.refused(NoLife, {"name": "p"}, call, date, START, year=-1, measuring=())
            self.refused(NoLife, {"name": "r"}, call, Earlier(Year(5), Close(Children("r"))), START, year=-1, measuring=())
            for thing in (-1, 10 ** 7 + 1, *[odd for odd in NOT_WHOLE if odd is not None]):
                self.refused(BadYear, {"year": thing}, call, Year(5), START, year=thing, measuring=())
            for thing in ((), []):
                self.refused(BadMeasuring, {"what": "empty"}, call, Year(5), START, measuring=thing)
            record = family(("wed", 2, "a", "m"), ("born", 3, "a", "k"))
            for thing in (*ODD, "z", "m", "k", 1, Always()):
                self.refused(BadMeasuring, {"what": "life"}, call, Year(5), record, measuring=["a", thing, "a"])
            self.refused(BadMeasuring, {"what": "double"}, call, Year(5), record, measuring=["a", "b", "a", "z"])

    def test_what_a_mate_or_an_unborn_person_is_called_is_no_life(self):
        record = family(("wed", 2, "a", "m"), ("born", 3, "a", "k"))
        for name in "mk":
            self.refused(NoLife, {"name": name}, latest, Death(name), record)


if __name__ == "__main__":
    unittest.main()
