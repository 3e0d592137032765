"""How late a gift can be open by a row of one kind [7.5] [7.6]."""

import unittest

from lastlife.causes import CAUSES, cause_fault, cause_number, cause_numbers, cause_reach, joining, latest_birth, leaving
from lastlife.conditions import By
from lastlife.customs import Customs
from lastlife.dates import Close, Death, Happening, Survivor, Year
from lastlife.deed import Deed
from lastlife.errors import BadCause, BadMeasuring, BadYear, NoGift, NoLife, NotAClass
from lastlife.gifts import Gift
from lastlife.kin import Children, Grandchildren
from lastlife.lateness import Latest, Reach
from lastlife.lives import Lives
from lastlife.members import member_number
from lastlife.record import Record
from lastlife.takers import FirstReaching, Living, Mate, Named, Reaching, Told, Whole
from tests.helpers import NOT_WHOLE, ODD, Always, FamilyTest

KIN = Children("a")
LIVES = Lives(Customs(12, years_after=1, limit=21), (("a", 40, None), ("b", 10, "a")))
EMPTY = Record(LIVES)
GROWN = Record(LIVES, (("born", 3, "a", "c"), ("died", 5, "a"), ("died", 6, "b")))
FARM = Deed(Gift("farm", Living(KIN), Death("a") + 25))
WAR = Happening("war")


def deed_of(taker, date, *rules):
    return Deed(Gift("farm", taker, date, *rules))


class TestCauses(FamilyTest):
    def check(self, wanted, deed, record=EMPTY, **more):
        """The four cause numbers are these, and the records of the Reaches show them."""
        self.same(self.quick(cause_numbers, deed, "farm", record, **more), tuple(zip(CAUSES, wanted)))
        for cause, told in zip(CAUSES, wanted):
            self.same(cause_number(deed, "farm", record, cause, **more), told)
            found = self.quick(cause_reach, deed, "farm", record, cause, **more)
            self.assertIs(found.__class__, Reach)
            self.same(found.number, told)
            self.assertIsNone(cause_fault(deed, "farm", record, cause, found, **more))
            self.assertEqual(found.record is None, told == 0)

    def test_the_causes(self):
        self.same(CAUSES, ("born", "wed", "happened", "died"))

    def test_the_example(self):
        self.check((1, 0, 0, 24), FARM)
        self.check((0, 0, 0, 23), FARM, GROWN)

    def test_each_cause(self):
        for deed, wanted in (
                (deed_of(Whole(KIN), Close(KIN)), (1, 0, 0, 0)), (deed_of(Told(KIN), WAR), (0, 0, None, 0)),
                (deed_of(Mate("a"), Death("a")), (0, 0, 0, 0)), (deed_of(Named("b"), Survivor("a")), (0, 0, 0, 0)),
                (deed_of(Named("b"), Death("a"), By(Survivor("a"), Death("b") + 6)), (0, 0, 0, 6)),
                (deed_of(Named("b"), Death("a"), By(WAR, Death("b") + 6)), (0, 0, 6, 0)),
                (deed_of(Reaching(KIN, 30), Close(KIN)), (1, 0, 0, 30)),
                (deed_of(Living(Grandchildren("a")), Death("a") + 5), (5, 0, 0, 4))):
            self.check(wanted, deed)
        self.check((0, None, 0, 0), deed_of(Mate("a"), Year(0)), measuring=("b",))

    def test_measuring_lives_and_years(self):
        self.check((None, 0, 0, None), FARM, measuring=("b",))
        self.check((1, 0, 0, 24), FARM, measuring=("a",))
        self.check((1, 0, 0, 24), FARM, GROWN, year=5, measuring=("a",))
        self.check((0, 0, 0, 24), FARM, GROWN, year=6, measuring=("a",))
        self.check((0, 0, 0, 0), FARM, GROWN, year=29)

    def test_a_row_that_is_not_the_last_one(self):
        """A wedding tips the gift to the mate, though the wife dies in that year."""
        lives = Lives(Customs(12), (("a", 40, None), ("b", 30, None), ("c", 20, None)))
        deed = deed_of(Mate("a"), Death("a"), By(Death("a"), Year(2)))
        record = Record(lives, (("died", 1, "c"),))
        self.check((0, 1, 0, 1), deed, record, measuring=("c",))
        shown = Record(lives, (("died", 1, "c"), ("wed", 2, "a", "m"), ("died", 2, "a")))
        for cause in ("wed", "died"):
            self.assertIsNone(cause_fault(deed, "farm", record, cause, Reach(1, shown), measuring=("c",)))

    def test_a_birth_or_a_wedding_whose_person_another_row_names(self):
        rows = (("died", 1, "a"), ("died", 1, "b"), ("born", 2, "a", "k"))
        whole = deed_of(Whole(KIN), Close(KIN))
        self.assertIsNone(cause_fault(whole, "farm", EMPTY, "born", Reach(1, Record(LIVES, rows))))
        named = Record(LIVES, (*rows, ("died", 2, "k")))
        self.assertEqual(cause_fault(whole, "farm", EMPTY, "born", Reach(1, named)), "cause")
        self.assertEqual(cause_fault(whole, "farm", EMPTY, "died", Reach(1, named)), "takers")
        lives = Lives(Customs(12), (("a", 40, None), ("b", 30, None)))
        deed = deed_of(Mate("a"), Year(0))
        rows = (("died", 1, "b"), ("wed", 30, "a", "m"))
        told = Reach(None, Record(lives, rows))
        self.assertIsNone(cause_fault(deed, "farm", Record(lives), "wed", told, measuring=("b",)))
        told = Reach(None, Record(lives, (*rows, ("died", 30, "m"))))
        self.assertEqual(cause_fault(deed, "farm", Record(lives), "wed", told, measuring=("b",)), "cause")


class TestCauseFault(FamilyTest):
    ROWS = (("born", 1, "a", "k"), ("died", 1, "a"), ("died", 1, "b"))
    BEST = Record(LIVES, (*ROWS, ("died", 25, "k")))

    def judged(self, told, record, cause="died", start=EMPTY, deed=FARM, **more):
        return cause_fault(deed, "farm", start, cause, Reach(told, record), **more)

    def test_right_ones(self):
        self.assertIsNone(self.judged(24, self.BEST))
        self.assertIsNone(self.judged(0, None, "wed"))
        beside = Record(LIVES, (*self.ROWS, ("happened", 25, "war"), ("died", 25, "k")))
        self.assertIsNone(self.judged(24, beside))
        twins = Record(LIVES, (("born", 1, "a", "j"), *self.ROWS, ("died", 25, "j"), ("died", 25, "k")))
        self.assertIsNone(self.judged(24, twins))
        behind = Record(LIVES, (("born", 1, "a", "j"), *self.ROWS, ("died", 25, "j"), ("died", 26, "k")))
        self.assertEqual(self.judged(25, behind), "takers")

    def test_words(self):
        other_lives = Record(Lives(Customs(12), (("a", 41, None), ("b", 10, "a"))), self.BEST.rows)
        beside = Record(LIVES, (*self.ROWS, ("happened", 25, "war"), ("died", 25, "k")))
        for told, record, cause, what in (
                (True, self.BEST, "died", "number"), (-1, None, "died", "number"), (0, self.BEST, "died", "record"),
                (24, None, "died", "record"), (24, other_lives, "died", "record"), (24, EMPTY, "died", "alive"),
                (23, self.BEST, "died", "lag"), (None, Record(LIVES, (*self.ROWS, ("died", 22, "k"))), "died", "lag"),
                (24, self.BEST, "born", "cause"), (24, beside, "wed", "cause"), (24, beside, "happened", "takers"),
                (25, Record(LIVES, (*self.ROWS, ("died", 26, "k"))), "died", "takers"),
                (23, Record(LIVES, (*self.ROWS, ("died", 24, "k"))), "died", "greatest"), (0, None, "died", "greatest"),
                (0, None, "born", "greatest"), (None, self.BEST, "died", "endless")):
            self.assertEqual(self.judged(told, record, cause), what, (told, cause, what))
        self.assertEqual(self.judged(24, self.BEST, start=GROWN), "agree")
        self.assertEqual(self.judged(6, GROWN, start=GROWN), "lag")


class TestJoiningAndLeaving(FamilyTest):
    def told(self, call, deed, record=EMPTY, **more):
        found = self.quick(call, deed, "farm", record, **more)
        self.assertIs(found.__class__, Reach)
        self.assertEqual(found.record is None, found.number == 0)
        return found

    def test_joining(self):
        for deed, wanted in (
                (FARM, 1), (deed_of(Whole(KIN), Close(KIN)), 1), (deed_of(Whole(KIN), Death("a")), 0),
                (deed_of(Living(Grandchildren("a")), Death("a") + 5), 5), (deed_of(Named("b"), WAR), 0),
                (deed_of(Reaching(KIN, 9), Close(KIN)), 1), (deed_of(FirstReaching(Children("b"), 0), Close(Children("b"))), 1),
                (deed_of(FirstReaching(KIN, 9), Close(KIN) + 8), 0), (deed_of(Mate("a"), WAR), 0)):
            found = self.told(joining, deed)
            self.same(found.number, wanted)
            if wanted:
                born = [row[3] for row in found.record.rows if row[0] == "born" and row[1] == found.record.end]
                self.assertTrue(set(born) & set(deed.takers("farm", found.record)))
        found = self.told(joining, FARM, measuring=("b",))
        self.assertIsNone(found.number)
        self.assertGreater(found.record.end - found.record.death("b"), 21)

    def test_leaving(self):
        for deed, wanted in (
                (FARM, 24), (deed_of(Whole(KIN), Close(KIN)), 0), (deed_of(Reaching(KIN, 30), Close(KIN)), 30),
                (deed_of(FirstReaching(KIN, 30), Death("a") + 60), 30), (deed_of(Named("b"), WAR), 0),
                (deed_of(Mate("a"), WAR), 0), (deed_of(Living(Grandchildren("a")), Death("a") + 5), 4)):
            found = self.told(leaving, deed)
            self.same(found.number, wanted)
            if wanted:
                rows = found.record.rows
                died = [row for row in rows if row[0] == "died" and row[1] == found.record.end]
                without = [Record(LIVES, [one for one in rows if one != row]) for row in died]
                self.assertTrue(any(row[2] in deed.takers("farm", other) and row[2] not in deed.takers("farm", found.record)
                                    for row, other in zip(died, without)))
        self.assertIsNone(self.told(leaving, FARM, measuring=("b",)).number)
        self.same(self.told(leaving, FARM, GROWN).number, 23)

    def test_only_a_death_makes_one_leave(self):
        lives = Lives(Customs(12), (("a", 40, None), ("b", 30, None)))
        record = Record(lives, (("died", 1, "b"),))
        deed = deed_of(Named("a"), Year(0), By(Survivor("a"), Year(9)))
        self.same(cause_number(deed, "farm", record, "wed", measuring=("b",)), 8)
        self.same(self.told(leaving, deed, record, measuring=("b",)).number, 0)
        # A happening may have the name of a person.
        deed = deed_of(Named("a"), Year(0), By(Year(9), Happening("a")))
        self.same(cause_number(deed, "farm", record, "happened", measuring=("b",)), 7)
        self.same(self.told(leaving, deed, record, measuring=("b",)).number, 0)

    def test_a_mate_who_leaves(self):
        deed = deed_of(Mate("a"), Death("a"), By(Death("b") + 4, Survivor("a")))
        self.same(self.told(leaving, deed).number, 3)


class TestLatestBirth(FamilyTest):
    def check(self, kind, years, deed, record=EMPTY, **more):
        found = self.quick(latest_birth, deed, "farm", record, **more)
        self.assertIs(found.__class__, Latest)
        self.assertEqual((found.kind, found.years), (kind, years))
        if kind == "never":
            self.assertIsNone(found.record)
            return
        start = record.until(record.end if more.get("year") is None else more["year"])
        one = found.record
        self.assertEqual(one.until(more.get("year", start.end)), start)
        births = [one.birth(person) for person in deed.takers("farm", one) if person not in start.persons]
        late = max(births) - one.last_death(more.get("measuring") or record.lives.names)
        self.assertTrue(late == years if kind == "within" else late > record.customs.limit)

    def test_kinds(self):
        for deed, kind, years in (
                (FARM, "within", 1), (deed_of(Whole(KIN), Death("a")), "within", 0), (deed_of(Told(KIN), WAR), "never", None),
                (deed_of(Living(Grandchildren("a")), Death("a") + 5), "within", 5),
                (deed_of(Whole(Grandchildren("a")), WAR), "endless", None), (deed_of(Whole(KIN), WAR), "within", 1),
                (deed_of(FirstReaching(KIN, 30), Death("a") + 20), "within", -10),
                (deed_of(Reaching(KIN, 30), Close(KIN)), "within", 1), (deed_of(Whole(KIN), Year(5)), "within", 1),
                (deed_of(Whole(KIN), Year(-5)), "never", None)):
            self.check(kind, years, deed)

    def test_beginnings_and_measuring_lives(self):
        self.check("endless", None, FARM, measuring=("b",))
        self.check("within", 1, FARM, measuring=("a",))
        self.check("never", None, FARM, GROWN)
        self.check("within", 1, FARM, GROWN, year=4)
        self.check("within", 0, FARM, GROWN, year=5)
        self.check("within", 1, FARM, GROWN, year=5, measuring=("a",))

    def test_behind_a_gift_ahead(self):
        deed = Deed(Gift("house", Named("a"), Year(0)), Gift("farm", Whole(KIN), WAR, over="house"))
        self.check("never", None, deed)
        deed = Deed(Gift("house", Named("a"), Death("b"), By(Death("b"), Death("a"))), Gift("farm", Whole(KIN), WAR, over="house"))
        self.check("within", 0, deed)


class TestErrors(FamilyTest):
    DEED = Deed(Gift("x", Mate("p"), Death("q")), Gift("y", Named("a"), Year(4), over="x"))
    GOOD = deed_of(Named("a"), Year(4))

    def calls(self):
        yield lambda deed, name, record, **more: cause_number(deed, name, record, "zz", **more)
        yield lambda deed, name, record, **more: cause_reach(deed, name, record, "zz", **more)
        yield lambda deed, name, record, **more: cause_fault(deed, name, record, "zz", None, **more)
        for call in (cause_numbers, joining, leaving, latest_birth):
            yield call

    def test_the_order(self):
        for call in self.calls():
            for thing in (*ODD, "w", 1, Always()):
                self.refused(NoGift, {"name": thing}, call, self.DEED, thing, EMPTY, year=-1, measuring=())
            self.refused(NoLife, {"name": "p"}, call, self.DEED, "y", EMPTY, year=-1, measuring=())
            for thing in (-1, 10 ** 7 + 1, *[odd for odd in NOT_WHOLE if odd is not None]):
                self.refused(BadYear, {"year": thing}, call, self.GOOD, "farm", EMPTY, year=thing, measuring=())
            self.refused(BadMeasuring, {"what": "empty"}, call, self.GOOD, "farm", EMPTY, measuring=())
            self.refused(BadMeasuring, {"what": "life"}, call, self.GOOD, "farm", EMPTY, measuring=("a", "z", "a"))
            self.refused(BadMeasuring, {"what": "double"}, call, self.GOOD, "farm", EMPTY, measuring=("a", "a"))

    def test_causes(self):
        for call in (cause_number, cause_reach, lambda *told: cause_fault(*told, None)):
            for thing in (*ODD, "birth", "Born", 1, Always(), ("born",)):
                self.refused(BadCause, {"cause": thing}, call, FARM, "farm", EMPTY, thing)

    def test_gifts_that_are_for_no_class(self):
        for taker in (Named("a"), Mate("a")):
            self.refused(NotAClass, {"name": "farm"}, latest_birth, deed_of(taker, Year(4)), "farm", EMPTY)
            self.assertEqual(joining(deed_of(taker, Year(4)), "farm", EMPTY), Reach(0))

    def test_joining_is_at_most_the_member_number_of_none(self):
        self.assertEqual((joining(FARM, "farm", EMPTY).number, member_number(FARM, "farm", EMPTY, None)), (1, 24))


if __name__ == "__main__":
    unittest.main()
