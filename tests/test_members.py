"""How late it can be open whether a person takes [7.1] to [7.4]."""

import unittest

from lastlife.conditions import By, Unless
from lastlife.customs import Customs
from lastlife.dates import Close, Death, Happening, Survivor, Year
from lastlife.deed import Deed
from lastlife.errors import BadMeasuring, BadYear, NoGift, NoLife, NoPerson, NotAClass
from lastlife.gifts import Gift
from lastlife.kin import Children, Grandchildren
from lastlife.lateness import Reach
from lastlife.lives import Lives
from lastlife.members import member_fault, member_number, member_numbers, member_reach
from lastlife.reach import number
from lastlife.record import Record
from lastlife.takers import FirstReaching, Living, Mate, Named, Reaching, Told, Whole
from tests.helpers import NOT_WHOLE, ODD, Always, FamilyTest

KIN = Children("a")
LIVES = Lives(Customs(12, years_after=1, limit=21), (("a", 40, None), ("b", 10, "a")))
EMPTY = Record(LIVES)
GROWN = Record(LIVES, (("born", 3, "a", "c"), ("died", 5, "a"), ("died", 6, "b")))
FARM = Deed(Gift("farm", Living(KIN), Death("a") + 25))
WAR = Happening("war")


def deed_of(taker, date, *rules):
    return Deed(Gift("farm", taker, date, *rules))


def takes(deed, record, person, known):
    """Whether the person takes in the record; for None, which newcomers do."""
    takers = deed.takers("farm", record)
    return {one for one in takers if one not in known} if person is None else person in takers


class MemberTest(FamilyTest):
    def check(self, wanted, deed, person, record=EMPTY, **more):
        """The member number is the wanted one, and the record of the Reach shows it."""
        self.same(self.quick(member_number, deed, "farm", record, person, **more), wanted)
        found = self.quick(member_reach, deed, "farm", record, person, **more)
        self.assertIs(found.__class__, Reach)
        self.same(found.number, wanted)
        self.assertIsNone(member_fault(deed, "farm", record, person, found, **more))
        if wanted == 0:
            self.assertIsNone(found.record)
            return
        since = record.end if more.get("year") is None else more["year"]
        start, shown = record.until(since), found.record
        self.assertEqual(shown.until(since), start)
        self.assertGreater(shown.end, since)
        lag = shown.end - shown.last_death(more.get("measuring") or record.lives.names)
        self.assertTrue(lag > record.customs.limit if wanted is None else lag == wanted)
        self.assertNotEqual(takes(deed, shown, person, start.persons), takes(deed, shown.shorter(), person, start.persons))


class TestMemberNumber(MemberTest):
    def test_the_example(self):
        self.same(member_numbers(FARM, "farm", EMPTY), (("b", 0), (None, 24)))
        self.same(member_numbers(FARM, "farm", GROWN), (("b", 0), ("c", 23), (None, 0)))
        self.check(0, FARM, "b")
        self.check(24, FARM, None)
        self.check(23, FARM, "c", GROWN)
        self.check(0, FARM, None, GROWN)

    def test_each_taker(self):
        for taker, person, wanted in (
                (Told(KIN), "b", 0), (Told(KIN), None, 0), (Whole(KIN), "b", 0), (Whole(KIN), None, 1),
                (Living(KIN), "b", 0), (Living(KIN), None, 24), (Reaching(KIN, 30), "b", 0), (Reaching(KIN, 30), None, 30),
                (FirstReaching(KIN, 30), "b", 0), (FirstReaching(KIN, 20), None, 20),
                (FirstReaching(KIN, 26), None, 24), (FirstReaching(KIN, 26), "b", 0), (Named("b"), "b", 0), (Named("b"), "a", 0), (Mate("a"), None, 0)):
            self.check(wanted, deed_of(taker, Death("a") + 25), person)

    def test_takers_who_hang_on_a_happening(self):
        rule = By(WAR, Death("a") + 9)
        for taker, person, wanted in (
                (Named("b"), "b", 9), (Named("b"), "a", 0), (Named("b"), None, 0), (Mate("a"), None, 9),
                (Told(KIN), "b", 9), (Told(KIN), None, 0), (Whole(KIN), "b", 9), (Whole(KIN), None, 9),
                (Mate("b"), None, 9)):
            self.check(wanted, deed_of(taker, Death("a") + 9, rule), person)

    def test_mates_have_a_member_number(self):
        wed = Record(LIVES, (("wed", 2, "a", "m"), ("wed", 3, "a", "n")))
        deed = deed_of(Mate("a"), Death("a"), By(WAR, Death("a") + 4))
        for person, wanted in (("n", 4), ("m", 0), ("a", 0), ("b", 0), (None, 4)):
            self.check(wanted, deed, person, wed)
        # Now b can die in the year 5 at the earliest.
        for person, wanted in (("n", 3), ("m", 0), (None, 0)):
            self.check(wanted, deed, person, wed.after(("died", 4, "a")))
        self.check(None, deed_of(Mate("a"), Year(0)), None, measuring=("b",))
        self.check(None, deed_of(Mate("a"), Year(0)), "n", wed, measuring=("b",))

    def test_one_newcomer_in_the_place_of_another_one(self):
        """Two children are as old; that the first one dies early decides that the other one takes."""
        deed = deed_of(FirstReaching(KIN, 30), Death("a") + 60)
        record = Record(LIVES, (("died", 1, "b"),))
        self.check(30, deed, None, record)
        self.check(0, deed, "b", record)
        rows = (("died", 1, "a"), ("died", 1, "b"), ("born", 2, "a", "k"), ("born", 2, "a", "l"), ("died", 31, "k"))
        found = Reach(30, Record(LIVES, rows))
        self.assertEqual(deed.takers("farm", found.record), ("l",))
        self.assertIsNone(member_fault(deed, "farm", EMPTY, None, found))

    def test_measuring_lives_and_later_years(self):
        self.check(None, FARM, None, measuring=("b",))
        self.check(23, FARM, "c", GROWN, measuring=("a", "b"))
        self.check(24, FARM, "c", GROWN, measuring=("a",))
        self.check(23, FARM, "c", GROWN, year=5)
        self.check(24, FARM, None, GROWN, year=4)
        self.check(0, FARM, "c", GROWN, year=29)
        self.check(23, FARM, "c", GROWN, year=28)

    def test_several_gifts(self):
        deed = Deed(Gift("house", Living(KIN), Death("b") + 5), Gift("farm", Living(KIN), Death("a") + 25, over="house"))
        self.check(24, deed, None)
        # A child that dies 4 years behind b leaves the farm to b.
        self.check(4, deed, "b")
        lives = Lives(Customs(12), (("a", 40, None), ("b", 10, "a"), ("c", 10, "a")))
        sale = By(WAR, Death("b") + 5)
        deed = Deed(Gift("house", Named("b"), Death("b"), sale), Gift("farm", Named("c"), Death("a"), over="house"))
        self.check(5, deed, "c", Record(lives))
        self.check(0, deed, "b", Record(lives))

    def test_the_greatest_of_all_is_the_number_of_the_gift(self):
        for taker in (Living(KIN), Whole(KIN), Reaching(KIN, 26), Told(KIN), FirstReaching(KIN, 20)):
            for record in (EMPTY, GROWN, GROWN.until(5)):
                for date in (Death("a") + 25, Close(KIN), WAR, Survivor("b")):
                    deed = deed_of(taker, date)
                    found = member_numbers(deed, "farm", record)
                    told = [told for _, told in found]
                    whole = None if None in told else max(told)
                    self.assertEqual(number(deed, "farm", record), whole)
                    self.assertEqual([person for person, _ in found], [*KIN.members(record), None])

    def test_known_grandchildren(self):
        lives = Lives(Customs(12), (("a", 60, None), ("b", 30, "a"), ("c", 5, "b")))
        record = Record(lives, (("born", 2, "b", "k"), ("born", 3, "a", "d"), ("died", 4, "a")))
        found = member_numbers(deed_of(Living(Grandchildren("a")), Death("a") + 25), "farm", record)
        # The other lives can die in the year 5 at the earliest, and a child of d can be born in the year 29.
        self.same(found, (("c", 0), ("k", 23), (None, 24)))
        late = record.after(("died", 4, "b"), ("died", 4, "c"), ("died", 5, "d"))
        self.same(member_numbers(deed_of(Living(Grandchildren("a")), Death("a") + 25), "farm", late),
                  (("c", 0), ("k", 24), (None, 0)))


class TestMemberFault(MemberTest):
    ROWS = (("born", 1, "a", "k"), ("died", 1, "a"), ("died", 1, "b"))
    BEST = Record(LIVES, (*ROWS, ("died", 25, "k")))

    def judged(self, told, record, person=None, start=EMPTY, deed=FARM, **more):
        return member_fault(deed, "farm", start, person, Reach(told, record), **more)

    def test_right_ones(self):
        self.assertIsNone(self.judged(24, self.BEST))
        self.assertIsNone(self.judged(0, None, "b"))
        twins = Record(LIVES, (("born", 1, "a", "j"), *self.ROWS, ("died", 25, "j"), ("died", 25, "k")))
        self.assertIsNone(self.judged(24, twins))
        self.assertIsNone(self.judged(23, Record(LIVES, (*GROWN.rows, ("died", 29, "c"))), "c", GROWN))

    def test_words(self):
        other_lives = Record(Lives(Customs(12), (("a", 41, None), ("b", 10, "a"))), self.BEST.rows)
        for told, record, person, what in (
                (True, self.BEST, None, "number"), (-1, None, None, "number"), ("24", self.BEST, None, "number"),
                (0, self.BEST, None, "record"), (24, None, None, "record"), (None, None, None, "record"),
                (24, other_lives, None, "record"), (24, EMPTY, None, "alive"),
                (24, Record(LIVES, (("born", 1, "a", "k"), ("died", 1, "a"), ("died", 25, "k"))), None, "alive"),
                (23, self.BEST, None, "lag"), (None, Record(LIVES, (*self.ROWS, ("died", 22, "k"))), None, "lag"),
                (24, self.BEST, "b", "takers"), (25, Record(LIVES, (*self.ROWS, ("died", 26, "k"))), None, "takers"),
                (23, Record(LIVES, (*self.ROWS, ("died", 24, "k"))), None, "greatest"), (0, None, None, "greatest"),
                (None, self.BEST, None, "endless")):
            self.assertEqual(self.judged(told, record, person), what, (told, what))
        self.assertEqual(self.judged(24, self.BEST, "b", GROWN), "agree")
        self.assertEqual(self.judged(0, self.BEST, "b", GROWN), "record")
        self.assertEqual(self.judged(5, GROWN, "b", GROWN), "lag")
        self.assertIsNone(self.judged(0, None, "b", GROWN))

    def test_a_gift_that_is_endless_for_newcomers(self):
        late = Record(LIVES, (("died", 1, "b"), ("born", 23, "a", "k"), ("died", 23, "a"), ("died", 47, "k")))
        self.assertIsNone(self.judged(None, late, measuring=("b",)))
        self.assertEqual(self.judged(46, late, measuring=("b",)), "greatest")
        self.assertEqual(self.judged(None, late, deed=deed_of(Named("b"), Year(5))), "takers")


class TestErrors(FamilyTest):
    DEED = Deed(Gift("x", Mate("p"), Death("q")), Gift("y", Named("a"), Year(4), over="x"))

    def calls(self):
        yield lambda deed, name, record, **more: member_number(deed, name, record, "zz", **more)
        yield lambda deed, name, record, **more: member_reach(deed, name, record, "zz", **more)
        yield lambda deed, name, record, **more: member_fault(deed, name, record, "zz", None, **more)
        yield member_numbers

    def test_the_order(self):
        good = deed_of(Named("a"), Year(4))
        for call in self.calls():
            for thing in (*ODD, "w", 1, Always()):
                self.refused(NoGift, {"name": thing}, call, self.DEED, thing, EMPTY, year=-1, measuring=())
            self.refused(NoLife, {"name": "p"}, call, self.DEED, "y", EMPTY, year=-1, measuring=())
            for thing in (-1, 10 ** 7 + 1, *[odd for odd in NOT_WHOLE if odd is not None]):
                self.refused(BadYear, {"year": thing}, call, good, "farm", EMPTY, year=thing, measuring=())
            self.refused(BadMeasuring, {"what": "empty"}, call, good, "farm", EMPTY, measuring=())
            self.refused(BadMeasuring, {"what": "life"}, call, good, "farm", EMPTY, measuring=("a", "z", "a"))
            self.refused(BadMeasuring, {"what": "double"}, call, good, "farm", EMPTY, measuring=("a", "a"))

    def test_persons(self):
        for call in (member_number, member_reach, lambda *told, **more: member_fault(*told, None, **more)):
            for thing in (*[odd for odd in ODD if odd is not None], "z", "war", 1, Always()):
                self.refused(NoPerson, {"name": thing}, call, FARM, "farm", GROWN, thing)
            self.refused(NoPerson, {"name": "c"}, call, FARM, "farm", GROWN, "c", year=2)
        self.assertEqual(member_number(FARM, "farm", GROWN, "c", year=3), 24)

    def test_gifts_that_are_for_no_class(self):
        for taker in (Named("a"), Mate("a")):
            self.refused(NotAClass, {"name": "farm"}, member_numbers, deed_of(taker, Year(4)), "farm", EMPTY)


if __name__ == "__main__":
    unittest.main()
