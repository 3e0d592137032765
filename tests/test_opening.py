"""Whether a gift is open [4.1] to [4.6]."""

import unittest

from lastlife.conditions import By, Unless
from lastlife.customs import Customs
from lastlife.dates import Close, Death, First, Happening, Last, Survivor, Year
from lastlife.deed import Deed
from lastlife.errors import BadYear, NoGift, NoLife, NoPerson
from lastlife.gifts import Gift
from lastlife.kin import Children, Grandchildren
from lastlife.lives import Lives
from lastlife.opening import (Open, Settled, is_open, newcomers_may_take, open_gifts, standing, state, state_fault,
                              two_ways)
from lastlife.record import Record
from lastlife.takers import FirstReaching, Living, Mate, Named, Reaching, Told, Whole
from tests.helpers import NOT_WHOLE, ODD, Always, FamilyTest, family, family_lives

KIN = Children("a")
GRAND = Grandchildren("a")
WAR = Happening("war")
MOST_CALL_YEAR = 10000000


def deed_of(taker, date, *rules):
    return Deed(Gift("gift", taker, date, *rules))


def example():
    lives = Lives(Customs(12), (("a", 40, None), ("b", 10, "a")))
    deed = Deed(Gift("farm", Living(KIN), Death("a"), part=(1, 2)),
                Gift("mill", Reaching(KIN, 20), Death("a"), part=(1, 2)))
    return deed, Record(lives, (("born", 3, "a", "c"), ("died", 8, "a"), ("died", 30, "c")))


class OpeningTest(FamilyTest):
    def check(self, deed, record, year, wanted, name="gift"):
        """The gift is open or not, and all that is told of it fits."""
        found = self.quick(is_open, deed, name, record, year=year)
        self.same(found, wanted)
        told = self.quick(state, deed, name, record, year=year)
        self.assertIsInstance(told, Open if wanted else Settled)
        self.assertIsNone(state_fault(deed, name, record, told, year=year))
        past = record.until(record.end if year is None else year)
        if not wanted:
            self.same(told.takers, deed.takers(name, past))
        persons = [self.quick(standing, deed, name, record, person, year=year) for person in past.persons]
        may = self.quick(newcomers_may_take, deed, name, record, year=year)
        self.same(may or "open" in persons, wanted)
        for person, stands in zip(past.persons, persons):
            self.check_two_ways(deed, name, record, year, person, stands == "open")
        self.check_two_ways(deed, name, record, year, None, may)

    def check_two_ways(self, deed, name, record, year, person, wanted):
        pair = two_ways(deed, name, record, person, year=year)
        self.assertEqual(pair is not None, wanted)
        if pair is None:
            return
        past = record.until(record.end if year is None else year)
        takes = []
        for one in pair:
            self.assertEqual(one.until(record.end if year is None else year), past)
            self.assertLessEqual(len(one) - len(past), 40)
            self.assertLessEqual(one.end, 10 ** 8)
            takers = deed.takers(name, one)
            takes.append(person in takers if person else any(other not in past.persons for other in takers))
        self.assertEqual(takes, [True, False])


class TestOpen(OpeningTest):
    def test_the_example(self):
        deed, record = example()
        self.same((open_gifts(deed, record, year=7), open_gifts(deed, record, year=8), open_gifts(deed, record, year=22)),
                  (("farm", "mill"), ("mill",), ()))
        self.same((state(deed, "farm", record, year=8).takers, standing(deed, "mill", record, "b", year=8),
                   standing(deed, "mill", record, "c", year=8)), (("b", "c"), "open", "open"))
        self.same((standing(deed, "mill", record, "b", year=9), newcomers_may_take(deed, "mill", record, year=8)),
                  ("takes", False))
        self.assertIsNone(two_ways(deed, "mill", record, "c", year=22))
        for year in (0, 2, 3, 7, 8, 9, 21, 22, 23, 29, 30, None):
            self.check(deed, record, year, name="farm", wanted=year is not None and year < 8)
            self.check(deed, record, year, name="mill", wanted=year is not None and year < 22)

    def test_the_year_none_is_the_end_of_the_record(self):
        deed, record = example()
        self.same(open_gifts(deed, record), ())
        self.same(open_gifts(deed, record.until(8)), ("mill",))
        self.same(open_gifts(deed, Record(record.lives)), ("farm", "mill"))

    def test_rows_behind_the_year_do_not_count(self):
        deed, record = example()
        for year in (0, 3, 8, 22):
            for name in ("farm", "mill"):
                self.same(is_open(deed, name, record, year=year), is_open(deed, name, record.until(year), year=year))
        self.refused(NoPerson, {"name": "c"}, standing, deed, "mill", record, "c", year=2)

    def test_a_newcomer_alone_keeps_it_open(self):
        deed = deed_of(Whole(Children("c")), Death("b"))
        self.check(deed, family(), 0, True)
        self.same(standing(deed, "gift", family(), "c"), "out")
        self.same(newcomers_may_take(deed, "gift", family()), True)
        self.check(deed, family(("died", 3, "c")), 4, False)
        self.check(deed, family(("died", 3, "c")), 3, True)

    def test_a_second_mate_alone_keeps_it_open(self):
        deed = deed_of(Mate("a"), Year(1))
        record = family(("wed", 2, "a", "m"), ("died", 6, "m"), ("died", 9, "a"))
        for year, wanted in ((0, True), (2, True), (6, True), (8, True), (9, False)):
            self.check(deed, record, year, wanted)
        self.same(standing(deed, "gift", record, "m", year=8), "open")

    def test_a_happening_alone_keeps_it_open(self):
        deed = deed_of(Named("b"), Year(1), By(Year(5), WAR))
        self.check(deed, family(), 0, True)
        self.check(deed, family(("happened", 3, "war")), 2, True)
        self.check(deed, family(("happened", 3, "war")), 3, False)
        self.check(deed, family(), 3, True)
        self.check(deed, family(), 4, False)
        self.check(deed_of(Named("b"), Year(1), By(Year(5), WAR + 3)), family(), 1, False)
        self.check(deed, family(("happened", 3, "fire")), 3, True)

    def test_class_dates(self):
        for date, wanted in ((First(Children("c"), "birth"), (5, 5)), (First(Children("c"), "death"), (9, 5)),
                             (First(Children("c"), 3), (8, 5)), (Last(Children("c"), "death"), (9, 5)),
                             (Last(Children("c"), 2), (7, 5)), (Close(Grandchildren("c")), (9, 5))):
            # With a child that is born in 5 and dies in 9; then with the death of c alone.
            deed = deed_of(Named("b"), date, By(date, Year(30)))
            record = family(("born", 5, "c", "k"), ("died", 6, "c"), ("died", 9, "k"))
            self.assertFalse(is_open(deed, "gift", record, year=30), date)
            self.assertTrue(is_open(deed, "gift", record, year=4), date)
            lone = family(("died", 4, "c"))
            self.check(deed, lone, wanted[1], False)

    def test_a_member_who_may_or_may_not_reach_the_age(self):
        deed = deed_of(Reaching(KIN, 14), Year(1))
        record = family(("died", 9, "b"))
        for year, wanted in ((0, True), (1, True), (2, True), (3, False), (4, False), (9, False)):
            self.check(deed, record, year, wanted)
        self.same(standing(deed, "gift", record, "b", year=3), "takes")

    def test_the_first_one_of_two_who_reach_it_in_one_year(self):
        twins = (("born", 5, "c", "x"), ("born", 5, "c", "y"))
        deed = deed_of(FirstReaching(Children("c"), 3), Year(8))
        for year, wanted in ((6, True), (7, False), (8, False)):
            self.check(deed, family(*twins), year, wanted)
        record = family(*twins, ("died", 7, "x"))
        self.same(standing(deed, "gift", record, "y", year=7), "takes")
        self.same((standing(deed, "gift", record, "y", year=6), standing(deed, "gift", record, "x", year=6)),
                  ("open", "open"))
        self.same((standing(deed, "gift", family(*twins), "x", year=7), standing(deed, "gift", family(*twins), "y", year=7)),
                  ("takes", "out"))

    def test_the_first_one_of_two_who_reach_it_in_unlike_years(self):
        deed = deed_of(FirstReaching(Children("c"), 3), Year(20))
        record = family(("born", 2, "c", "x"), ("born", 5, "c", "y"))
        for year, x, y in ((3, "open", None), (4, "takes", None), (5, "takes", "out"), (9, "takes", "out")):
            self.same(standing(deed, "gift", record, "x", year=year), x)
            if y is not None:
                self.same(standing(deed, "gift", record, "y", year=year), y)
        self.check(deed, record, 3, True)
        self.check(deed, record, 4, False)

    def test_the_first_one_of_lives_of_whom_the_younger_is_told_first(self):
        lives = Lives(Customs(), (("a", 40, None), ("b", 5, "a"), ("c", 10, "a"), ("d", 10, "a")))
        deed = deed_of(FirstReaching(KIN, 12), Year(20))
        record = Record(lives, (("died", 2, "a"),))
        self.same([standing(deed, "gift", record, person) for person in "bcd"], ["out", "takes", "out"])
        self.same([standing(deed, "gift", record, person, year=0) for person in "bcd"], ["open", "open", "open"])
        self.check(deed, record, 2, False)
        self.check(deed, record, 0, True)

    def test_parents_of_grandchildren(self):
        lives = Lives(Customs(12), (("a", 60, None), ("b", 0, "a"), ("c", 20, "a"), ("d", 30, "a")))
        for rows, wanted in (((), True), ((("died", 1, "c"),), True), ((("died", 1, "c"), ("died", 2, "d")), True),
                             ((("died", 1, "c"), ("died", 1, "d")), False)):
            # In 3 no newcomer is a parent yet, and b is too young.
            record = Record(lives, rows)
            self.check(deed_of(Whole(GRAND), Year(3)), record, 2, wanted)
            self.check(deed_of(Whole(GRAND), Year(30)), record, 2, True)

    def test_the_first_one_of_newcomers(self):
        kin = Children("c")
        for age, date in ((0, First(kin, "death")), (2, First(kin, "death")), (0, Last(kin, 4)), (3, First(kin, 3))):
            self.check(deed_of(FirstReaching(kin, age), date), family(), 0, True)
            self.same(newcomers_may_take(deed_of(FirstReaching(kin, age), date), "gift", family()), True)

    def test_a_wedding_in_the_year_of_the_death(self):
        deed = deed_of(Mate("a"), Year(1), By(Death("a"), Year(1)))
        for wed_age, wanted in ((0, True), (41, True), (42, False)):
            self.check(deed, family(customs=Customs(wed_age=wed_age)), 0, wanted)
            self.same(newcomers_may_take(deed, "gift", family(customs=Customs(wed_age=wed_age))), wanted)

    def test_who_takes_ahead_as_a_child_does_not_take_as_a_grandchild(self):
        deed = Deed(Gift("one", Whole(Children("b")), Death("b")), Gift("two", Whole(GRAND), Death("b"), over="one"))
        record = family(("died", 1, "a"))
        # In 2 one more child of a can come, and have a child itself.
        for year, wanted in ((1, True), (2, False), (3, False)):
            told = newcomers_may_take(deed, "two", record, year=year)
            self.same(told, wanted)
            self.check(deed, record, year, wanted, "two")
            self.check(deed, record, year, True, "one")

    def test_newcomers_of_one_year_come_in_either_order(self):
        lives = Lives(Customs(1, years_after=0), (("a", 9, None), ("b", 5, "a")))
        deed = deed_of(FirstReaching(GRAND, 2), Death("a") + 2)
        record = Record(lives, (("born", 1, "b", "x"), ("died", 1, "b")))
        self.same(standing(deed, "gift", record, "x"), "open")
        self.check(deed, record, 1, True)

    def test_grandchildren_of_unborn_children(self):
        deed = deed_of(Whole(GRAND), Death("a") + 1)
        record = family(("died", 2, "b"), ("died", 5, "a"))
        for year, wanted in ((0, True), (3, True), (4, True), (5, False), (6, False)):
            self.check(deed, record, year, wanted)
        self.check(deed_of(Whole(GRAND), Close(GRAND)), record, 6, False)
        self.check(deed_of(Whole(GRAND), Close(GRAND)), record, 5, True)
        self.check(deed_of(Whole(GRAND), Close(GRAND)), family(("died", 2, "b"), ("died", 5, "a"), ("born", 6, "a", "k")),
                   9, True)

    def test_survivors(self):
        deed = deed_of(Living(Children("b")), Survivor("a"))
        record = family(("wed", 2, "a", "m"), ("born", 3, "b", "k"), ("died", 5, "a"), ("died", 9, "m"))
        for year, wanted in ((0, True), (5, True), (8, True), (9, False)):
            self.check(deed, record, year, wanted)

    def test_large_ages_and_years(self):
        lives = Lives(Customs(1000, years_after=1000, wed_age=1000), (("a", 10 ** 6, None), ("b", 0, None)))
        deed = deed_of(Reaching(KIN, 10 ** 6), Death("a") + 10 ** 6, By(Death("b") + 10 ** 6, Year(10 ** 6)))
        self.check(deed, Record(lives), 0, False)
        deed = deed_of(Reaching(KIN, 10 ** 6), Death("a") + 10 ** 6, Unless(Death("b") + 10 ** 6, Year(10 ** 6)))
        self.check(deed, Record(lives), 0, True)
        self.check(deed, Record(lives, (("died", 10 ** 6, "a"),)), MOST_CALL_YEAR, False)
        self.check(deed, Record(lives, (("born", 10 ** 7 - 1, "a", "x"),)), MOST_CALL_YEAR, True)

    def test_a_gift_behind_one_with_takers(self):
        deed = Deed(Gift("one", Named("a"), Year(3)), Gift("two", Mate("a"), Death("a"), over="one"),
                    Gift("three", Whole(KIN), Death("a"), over="two"))
        for name in ("one", "two", "three"):
            self.check(deed, family(), 0, False, name)
        deed = Deed(Gift("one", Named("a"), WAR), Gift("two", Mate("a"), Year(9), over="one"),
                    Gift("three", Whole(KIN), Year(9), over="two"))
        record = family(("wed", 2, "a", "m"), ("died", 5, "a"), ("happened", 7, "war"))
        for year, wanted in ((0, (True, True, True)), (2, (True, True, False)), (5, (True, True, False)),
                             (7, (False, False, False))):
            for name, is_so in zip(("one", "two", "three"), wanted):
                self.check(deed, record, year, is_so, name)

    def test_the_state_tells_any_two_records(self):
        deed = deed_of(Mate("a"), Death("a"))
        told = state(deed, "gift", family())
        takers = [set(deed.takers("gift", one)) for one in (told.one, told.other)]
        self.assertNotEqual(takers[0], takers[1])


class TestStateFault(FamilyTest):
    def judged(self, told, year):
        deed, record = example()
        return state_fault(deed, "mill", record, told, year=year)

    def test_settled(self):
        for takers, year, what in ((("b",), 7, "open"), (("b", "c"), 21, "open"), (("b", "c"), 22, None),
                                   (("c", "b"), 22, "takers"), (("b",), 22, "takers"), ((), 22, "takers")):
            self.assertEqual(self.judged(Settled(takers), year), what)

    def test_open(self):
        deed, record = example()
        dies = record.until(8).after(("died", 12, "c"))
        lives = record.until(8)
        other_lives = Record(Lives(Customs(13), record.lives.rows), lives.rows)
        for one, other, year, what in (
                (dies, lives, 8, None), (lives, dies, 8, None), (record, dies, 8, None), (None, dies, 8, "one"),
                (other_lives, dies, 8, "one"), (record.until(3), dies, 8, "one"), (dies, None, 8, "other"),
                (dies, record.until(7), 8, "other"), (None, None, 8, "one"), (lives, lives, 8, "takers"),
                (dies, dies.after(("died", 40, "b")), 8, "takers"), (dies, lives, 11, None), (dies, lives, 12, "one"),
                (lives, dies, 12, "other"), (record, lives, 30, "other"), (record, record, 30, "takers")):
            self.assertEqual(self.judged(Open(one, other), year), what, (year, what))


class TestErrors(FamilyTest):
    CALLS = (is_open, state, newcomers_may_take)

    def calls(self):
        for call in self.CALLS:
            yield lambda deed, name, record, year, call=call: call(deed, name, record, year=year)
        yield lambda deed, name, record, year: state_fault(deed, name, record, Settled(()), year=year)
        yield lambda deed, name, record, year: standing(deed, name, record, "nobody", year=year)
        yield lambda deed, name, record, year: two_ways(deed, name, record, "nobody", year=year)

    def test_no_gift_then_no_life_then_bad_year(self):
        deed = Deed(Gift("x", Mate("p"), Death("q"), By(Death("r"), Death("a"))),
                    Gift("y", Named("s"), Year(4), over="x"), Gift("z", Named("a"), Year(4), over="y"))
        for call in self.calls():
            for thing in (*ODD, "w", 1, Always()):
                self.refused(NoGift, {"name": thing}, call, deed, thing, family(), -1)
            for name in ("x", "y", "z"):
                self.refused(NoLife, {"name": "p"}, call, deed, name, family(), -1)
            first = Deed(Gift("x", Mate("a"), Death("b"), By(Death("r"), Death("q"))), Gift("y", Named("s"), Year(4), over="x"))
            self.refused(NoLife, {"name": "r"}, call, first, "y", family(), -1)

    def test_bad_year(self):
        deed = deed_of(Mate("a"), Death("a"))
        for call in self.calls():
            for thing in (-1, MOST_CALL_YEAR + 1, *[odd for odd in NOT_WHOLE if odd is not None]):
                self.refused(BadYear, {"year": thing}, call, deed, "gift", family(), thing)
        for call in self.CALLS:
            call(deed, "gift", family(), year=MOST_CALL_YEAR)
            call(deed, "gift", family(), year=0)

    def test_no_person(self):
        deed = deed_of(Mate("a"), Death("a"))
        record = family(("wed", 2, "a", "m"), ("born", 4, "a", "k"))
        for thing in (*ODD, "x", "k", "war", 1, Always()):
            if thing is not None:
                self.refused(NoPerson, {"name": thing}, two_ways, deed, "gift", record, thing, year=3)
            self.refused(NoPerson, {"name": thing}, standing, deed, "gift", record, thing, year=3)
        self.same(standing(deed, "gift", record, "m", year=3), "open")
        self.same(standing(deed, "gift", record, "k"), "out")

    def test_open_gifts(self):
        deed = Deed(Gift("x", Named("a"), Year(4), part=(1, 2)), Gift("y", Named("p"), Year(4), part=(1, 2)),
                    Gift("z", Named("q"), Year(4), over="x"))
        self.refused(NoLife, {"name": "p"}, open_gifts, deed, family(), year=-1)
        for thing in (-1, MOST_CALL_YEAR + 1, True, "5", 1.0):
            self.refused(BadYear, {"year": thing}, open_gifts, deed_of(Named("a"), WAR), family(), year=thing)
        both = Deed(Gift("x", Mate("a"), Year(4), part=(1, 2)), Gift("y", Named("a"), Year(4), part=(1, 4)),
                    Gift("z", Named("b"), WAR, part=(1, 4)))
        self.same(open_gifts(both, family()), ("x", "z"))


if __name__ == "__main__":
    unittest.main()
