"""The members of a class, judged each for itself or all together [7.7] [7.8]."""

import unittest

from lastlife.classes import Judged, judged, judged_takers
from lastlife.customs import Customs
from lastlife.dates import Close, Death, Happening, Year
from lastlife.deed import Deed
from lastlife.errors import BadCustom, BadLater, BadMeasuring, BadYear, NoGift, NoLife, NotAClass
from lastlife.gifts import Gift
from lastlife.kin import Children
from lastlife.lives import Lives
from lastlife.members import member_numbers
from lastlife.reach import is_good
from lastlife.record import Record
from lastlife.takers import Living, Mate, Named, Reaching, Told, Whole
from tests.helpers import NOT_WHOLE, ODD, Always, FamilyTest
from tests.samples import Dice

KIN = Children("a")
LIVES = Lives(Customs(12, years_after=1, limit=21), (("a", 40, None), ("b", 10, "a")))
EMPTY = Record(LIVES)
GROWN = Record(LIVES, (("born", 3, "a", "c"), ("died", 5, "a"), ("died", 6, "b")))
FARM = Deed(Gift("farm", Living(KIN), Death("a") + 25))


def deed_of(taker, date, *rules):
    return Deed(Gift("farm", taker, date, *rules))


class TestJudged(FamilyTest):
    def check(self, good, bad, deed, record=EMPTY, *, custom="each", **more):
        found = self.quick(judged, deed, "farm", record, custom=custom, **more)
        self.assertIs(found.__class__, Judged)
        self.same((found.custom, found.good, found.bad), (custom, good, bad))

    def test_the_example(self):
        self.check(("b", None), ("c",), FARM, GROWN)
        self.assertEqual(judged(FARM, "farm", GROWN, custom=Judged.ALL), Judged("all", (), ("b", "c", None)))

    def test_class_values(self):
        self.same((Judged.ALL, Judged.EACH), ("all", "each"))

    def test_one_bad_member_spoils_all(self):
        self.check(("b",), (None,), FARM)
        self.check((), ("b", None), FARM, custom="all")
        mild = deed_of(Living(KIN), Death("a") + 22)
        self.check(("b", None), (), mild)
        self.check(("b", None), (), mild, custom="all")

    def test_a_class_of_one_member(self):
        lone = Record(Lives(Customs(12, years_after=1, limit=0), (("a", 40, None),)))
        for custom in ("each", "all"):
            self.check((None,), (), deed_of(Whole(KIN), Death("a")), lone, custom=custom)
            self.check((), (None,), deed_of(Whole(KIN), Close(KIN)), lone, custom=custom)

    def test_who_is_told(self):
        war = Happening("war")
        self.check((None,), ("b",), deed_of(Told(KIN), war))
        self.check((), ("b", None), deed_of(Told(KIN), war), custom="all")
        self.check((), ("b", "c", None), deed_of(Whole(KIN), war), GROWN.until(3))
        # Behind the last death no newcomer can be born.
        self.check((None,), ("b", "c"), deed_of(Whole(KIN), war), GROWN)

    def test_numbers_at_the_limit_and_one_above(self):
        for years, good in ((22, True), (23, False)):
            deed = deed_of(Living(KIN), Death("a") + years)
            self.assertEqual(None in judged(deed, "farm", EMPTY, custom="each").good, good)

    def test_measuring_lives_and_years(self):
        self.check(("b", None), ("c",), FARM, GROWN, measuring=("a",))
        self.check((), ("b", None), FARM, measuring=("b",), custom="all")
        self.check(("b", "c", None), (), FARM, GROWN, year=29)
        self.check(("b",), ("c", None), FARM, GROWN, year=3)
        self.check(("b",), (None,), FARM, GROWN, year=2)

    def test_it_fits_the_member_numbers(self):
        for seed in range(5001, 5061):
            dice = Dice(seed)
            lives = dice.lives()
            deed, record = dice.deed(lives), dice.record(lives)
            for name in deed.names:
                if not isinstance(deed[name].taker, (Named, Mate)):
                    limit = lives.customs.limit
                    pairs = member_numbers(deed, name, record)
                    good = tuple(one for one, told in pairs if told is not None and told <= limit)
                    bad = tuple(one for one, told in pairs if told is None or told > limit)
                    self.assertEqual(judged(deed, name, record, custom="each"), Judged("each", good, bad))
                    everyone = tuple(one for one, _ in pairs)
                    whole = Judged("all", (), everyone) if bad else Judged("all", everyone, ())
                    self.assertEqual(judged(deed, name, record, custom="all"), whole)
                    self.assertEqual(is_good(deed, name, record), not bad)

    def test_equality(self):
        self.equals_only(Judged("all", ("b",), (None,)), Judged("all", ("b",), (None,)), Judged("each", ("b",), (None,)),
                         Judged("all", (), (None,)), Judged("all", ("b",), ()))
        self.stands_in(Judged, "__init__", "__eq__")
        self.has_no_order(Judged("all", (), ()), Judged("all", (), ()))
        kept = Judged("x", [1], None)
        self.assertEqual((kept.custom, kept.good, kept.bad), ("x", [1], None))


class TestJudgedTakers(FamilyTest):
    LATER = GROWN.after(("happened", 20, "war"))

    def check(self, wanted, later, deed=FARM, record=GROWN, *, custom="each", **more):
        self.same(judged_takers(deed, "farm", record, later, custom=custom, **more), wanted)

    def test_who_keeps_the_gift(self):
        grown = GROWN.after(("died", 30, "c"))
        self.assertEqual(FARM.takers("farm", grown), ("c",))
        self.check((), grown)
        self.check((), grown, custom="all")
        self.check(("c",), grown, year=29)
        self.check(("c",), grown, year=29, custom="all")

    def test_newcomers(self):
        """In the year 2 only b is known, so c is a newcomer."""
        self.check((), self.LATER, year=2)
        mild = deed_of(Living(KIN), Death("a") + 22)
        self.check(("c",), self.LATER, mild, year=2)
        self.check(("c",), self.LATER, mild, record=EMPTY)
        both = Record(LIVES, (("born", 3, "a", "c"), ("died", 5, "a")))
        self.check(("b", "c"), both, mild, record=EMPTY)
        self.check(("b",), both, FARM, record=EMPTY)
        self.check((), both, FARM, record=EMPTY, custom="all")

    def test_their_order_is_that_of_the_takers(self):
        lives = Lives(Customs(12), (("a", 40, None), ("b", 10, "a"), ("c", 12, "a")))
        deed = deed_of(Whole(KIN), Death("a"))
        later = Record(lives, (("born", 1, "a", "z"), ("born", 2, "a", "k"), ("died", 5, "a")))
        self.check(("b", "c", "z", "k"), later, deed, record=Record(lives))

    def test_records_that_do_not_go_on(self):
        for thing in (*ODD, GROWN.rows, LIVES, Always(), GROWN.shorter(), EMPTY,
                      Record(Lives(Customs(12), LIVES.rows + (("c", 3, None),)), GROWN.rows[1:])):
            self.refused(BadLater, {"later": thing}, judged_takers, FARM, "farm", GROWN, thing, custom="each")
        self.check((), GROWN.until(3), record=GROWN, year=3, custom="all")


class TestErrors(FamilyTest):
    DEED = Deed(Gift("x", Mate("p"), Death("q")), Gift("y", Named("a"), Year(4), over="x"))

    def calls(self):
        yield judged
        yield lambda deed, name, record, **more: judged_takers(deed, name, record, None, **more)

    def test_the_order(self):
        good = deed_of(Named("a"), Year(4))
        for call in self.calls():
            for thing in (*ODD, "w", 1, Always()):
                self.refused(NoGift, {"name": thing}, call, self.DEED, thing, EMPTY, year=-1, measuring=(), custom=1)
            self.refused(NoLife, {"name": "p"}, call, self.DEED, "y", EMPTY, year=-1, measuring=(), custom=1)
            for thing in (-1, 10 ** 7 + 1, *[odd for odd in NOT_WHOLE if odd is not None]):
                self.refused(BadYear, {"year": thing}, call, good, "farm", EMPTY, year=thing, measuring=(), custom=1)
            self.refused(BadMeasuring, {"what": "empty"}, call, good, "farm", EMPTY, measuring=(), custom=1)
            self.refused(BadMeasuring, {"what": "double"}, call, good, "farm", EMPTY, measuring=["a", "a"], custom=1)
            for taker in (Named("a"), Mate("a")):
                self.refused(NotAClass, {"name": "farm"}, call, deed_of(taker, Year(4)), "farm", EMPTY, custom=1)
            for thing in (*ODD, "All", "some", 1, Always(), ("all",)):
                self.refused(BadCustom, {"custom": thing}, call, FARM, "farm", EMPTY, custom=thing)

    def test_reaching(self):
        self.assertEqual(judged(deed_of(Reaching(KIN, 25), Close(KIN)), "farm", EMPTY, custom="each").bad, (None,))


if __name__ == "__main__":
    unittest.main()
