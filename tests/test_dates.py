"""Dates [2.2] to [2.9]."""

import unittest

from lastlife.customs import Customs
from lastlife.dates import Close, Date, Death, Earlier, First, Happening, Last, Later, Plus, Survivor, Year
from lastlife.errors import BadDate, NoLife
from lastlife.kin import Children, Grandchildren
from lastlife.lives import Lives
from lastlife.record import Record
from lastlife.years import LATE
from tests.helpers import NOT_NAMES, NOT_WHOLE, ODD, FamilyTest, family, family_lives

KIN = Children("a")
PLAIN = (Year(5), Death("a"), Survivor("a"), Happening("war"), Close(KIN), Close(Grandchildren("a")),
         First(KIN, "birth"), First(KIN, "death"), First(KIN, 21), Last(KIN, "death"), Last(KIN, 21))
CLASSES = (Year, Death, Survivor, Happening, Close, First, Last, Plus, Earlier, Later)


def never():
    """A date that never comes in the records of these tests."""
    return Happening("never")


def deep(depth):
    """A date of this depth."""
    date = Year(5)
    for _ in range(depth - 1):
        date = Plus(date, 1)
    return date


class TestPlainDates(FamilyTest):
    """The dates without inner dates [2.3]."""

    def test_year(self):
        for number in (-1000000, -1, 0, 5, 1000000):
            self.same(Year(number).year(family(("died", 3, "a"))), number)

    def test_death(self):
        record = family(("died", 3, "a"))
        self.same((Death("a").year(record), Death("b").year(record)), (3, LATE))

    def test_survivor(self):
        date = Survivor("a")
        for wanted, rows in (
                (LATE, ()),
                (5, (("died", 5, "a"),)),
                (LATE, (("wed", 2, "a", "m"), ("died", 5, "a"))),
                (LATE, (("wed", 2, "a", "m"), ("died", 5, "m"))),
                (7, (("wed", 2, "a", "m"), ("died", 5, "a"), ("died", 7, "m"))),
                (7, (("wed", 2, "a", "m"), ("died", 5, "m"), ("died", 7, "a"))),
                (9, (("wed", 2, "a", "m"), ("wed", 3, "a", "n"), ("died", 5, "a"), ("died", 9, "n"))),
                (LATE, (("wed", 2, "a", "m"), ("wed", 3, "a", "n"), ("died", 5, "a"), ("died", 9, "m"))),
                (5, (("wed", 2, "c", "m"), ("died", 5, "a")))):
            self.same(date.year(family(*rows)), wanted)

    def test_happening(self):
        record = family(("happened", 4, "war"), ("died", 5, "a"))
        self.same((Happening("war").year(record), Happening("a").year(record)), (4, None))

    def test_close(self):
        record = family(("died", 3, "b"), ("died", 5, "a"), customs=Customs(years_after=2))
        self.same((Close(KIN).year(record), Close(Grandchildren("a")).year(record)), (7, 7))
        self.same((Close(Children("c")).year(record), Close(Grandchildren("c")).year(record)), (LATE + 2, LATE + 2))

    def test_first_birth(self):
        date = First(KIN, "birth")
        self.same(date.year(family(("born", 2, "a", "d"))), -10)
        rows = (("born", 4, "c", "d"), ("born", 6, "c", "e"))
        self.same(First(Children("c"), "birth").year(family(*rows)), 4)
        self.same(First(Children("c"), "birth").year(family()), None)

    def test_first_birth_of_a_life_of_age_zero(self):
        lives = Lives(Customs(), (("a", 40, None), ("b", 0, "a")))
        self.same(First(KIN, "birth").year(Record(lives)), 0)

    def test_first_death(self):
        date = First(KIN, "death")
        self.same(date.year(family()), LATE)
        self.same(date.year(family(("born", 2, "a", "d"), ("died", 5, "d"), ("died", 7, "b"))), 5)
        self.same(date.year(family(("born", 2, "a", "d"), ("died", 7, "b"))), 7)
        self.same(First(Children("c"), "death").year(family(("died", 3, "c"))), None)

    def test_first_age(self):
        rows = (("born", 2, "a", "d"), ("born", 4, "a", "e"))
        for age, wanted in ((0, -10), (9, -1), (15, 5), (16, 18), (18, 20), (19, 23), (1000000, 1000004)):
            self.same(First(KIN, age).year(family(*rows, ("died", 5, "b"), ("died", 20, "d"))), wanted)
        self.same(First(Children("c"), 18).year(family(*rows)), None)

    def test_first_age_that_falls_exactly_on_a_death(self):
        record = family(("died", 11, "b"))
        self.same((First(KIN, 21).year(record), First(KIN, 22).year(record)), (11, None))
        self.same(First(KIN, 0).year(family(("born", 3, "c", "d"), ("died", 3, "d"))), -10)
        self.same(First(Children("c"), 0).year(family(("born", 3, "c", "d"), ("died", 3, "d"))), 3)
        self.same(First(Children("c"), 1).year(family(("born", 3, "c", "d"), ("died", 3, "d"))), None)

    def test_last_death(self):
        date = Last(KIN, "death")
        self.same(date.year(family()), LATE + 1)
        self.same(date.year(family(("died", 5, "b"))), LATE + 1)
        self.same(date.year(family(("died", 5, "a"))), LATE)
        self.same(date.year(family(("died", 5, "a"), ("died", 9, "b"))), 9)
        self.same(date.year(family(("died", 5, "b"), ("died", 9, "a"))), 10)
        self.same(Last(Children("c"), "death").year(family(("died", 5, "c"))), 6)

    def test_last_age(self):
        dead = (("died", 5, "a"),)
        for age, wanted in ((0, 6), (16, 6), (17, 7), (30, 20)):
            self.same(Last(KIN, age).year(family(*dead)), wanted)
        for age, wanted in ((16, 6), (18, 8), (19, 9), (30, 9)):
            self.same(Last(KIN, age).year(family(*dead, ("died", 9, "b"))), wanted)
        self.same(Last(KIN, 21).year(family()), LATE + 1)
        self.same(Last(KIN, 21).year(family(("born", 3, "a", "d"), *dead)), 24)
        self.same(Last(Children("c"), 21).year(family(("died", 5, "c"))), 6)

    def test_unborn_children_of_unborn_do_not_count_as_children(self):
        rows = (("born", 2, "a", "d"), ("born", 3, "d", "e"), ("died", 4, "e"), ("died", 9, "a"))
        self.same(First(KIN, "death").year(family(*rows)), LATE)

    def test_without_a_row_deaths_count_as_late(self):
        for date in (Death("a"), Survivor("a"), First(KIN, "death")):
            self.same(date.year(family()), LATE)


class TestInnerDates(FamilyTest):
    """The dates with inner dates [2.4] [2.5]."""

    def test_plus(self):
        for years in (0, 1, 1000000):
            self.same(Plus(Year(-7), years).year(family()), years - 7)
            self.same(Plus(never(), years).year(family()), None)

    def test_years_behind_a_death_that_no_row_tells(self):
        self.same(Plus(Death("a"), 5).year(family()), LATE + 5)
        self.same(Plus(Death("a"), 5).year(family(("died", 3, "a"))), 8)
        self.same(Later(Death("a"), Plus(Death("b"), 5)).year(family()), LATE + 5)
        self.same(Earlier(Plus(Death("a"), 5), Death("b")).year(family()), LATE)

    def test_earlier(self):
        for wanted, dates in (
                (2, (Year(5), Year(2))), (2, (Year(2), Year(5))), (5, (never(), Year(5))), (5, (Year(5), never())),
                (None, (never(), never())), (-3, (never(), Year(4), Year(-3), Year(0))), (1, (Year(1),) * 4),
                (0, (Year(0), never(), Year(7)))):
            self.same(Earlier(*dates).year(family()), wanted)

    def test_later(self):
        for wanted, dates in (
                (5, (Year(5), Year(2))), (5, (Year(2), Year(5))), (None, (never(), Year(5))),
                (None, (Year(5), never())), (4, (Year(-9), Year(4), Year(-3), Year(0))), (1, (Year(1),) * 4),
                (None, (Year(0), never(), Year(7))), (0, (Year(-2), Year(0)))):
            self.same(Later(*dates).year(family()), wanted)

    def test_no_life_for_the_first_name_in_the_order_of_the_text(self):
        record = family(("born", 2, "a", "d"), ("wed", 2, "a", "m"))
        for name in ("z", "d", "m"):
            kin, grand = Children(name), Grandchildren(name)
            for date in (Death(name), Survivor(name), Close(kin), Close(grand), First(kin, "birth"), Last(kin, 3)):
                self.refused(NoLife, {"name": name}, date.year, record)
                self.refused(NoLife, {"name": name}, Plus(date, 3).year, record)
                self.refused(NoLife, {"name": name}, Earlier(Death("a"), Year(-5), date, Death("y")).year, record)
                self.refused(NoLife, {"name": name}, Later(never(), date, Death("y")).year, record)
                self.refused(NoLife, {"name": "y"}, Later(Earlier(never(), Death("y")), date).year, record)


class TestConstructors(FamilyTest):
    """Wrong things [2.6]."""

    def bad(self, what, call, *things):
        self.refused(BadDate, {"what": what}, call, *things)

    def test_year(self):
        for thing in (-1000001, 1000001, *NOT_WHOLE):
            self.bad("number", Year, thing)

    def test_death_survivor_and_happening(self):
        for thing in NOT_NAMES:
            self.bad("life", Death, thing)
            self.bad("life", Survivor, thing)
            self.bad("name", Happening, thing)

    def test_close(self):
        for thing in (*ODD, "a", Children, Year(5)):
            self.bad("kin", Close, thing)

    def test_first_and_last(self):
        for date in (First, Last):
            for thing in (*ODD, "a", Children, Grandchildren("a")):
                self.bad("kin", date, thing, 21)
                self.bad("kin", date, thing, "x")
            for what in (-1, 1000001, "x", "Death", "birth of", ("death",), *NOT_WHOLE):
                self.bad("what", date, KIN, what)
            for what in (0, 1000000, "death"):
                self.same(date(KIN, what).what, what)
        self.same(First(KIN, "birth").what, "birth")
        self.bad("what", Last, KIN, "birth")

    def test_plus(self):
        for thing in (*ODD, 5, Year, KIN):
            self.bad("date", Plus, thing, "x")
        for years in (0, 1000000):
            self.same(Plus(Year(1), years).years, years)
        for years in (-1, 1000001, *NOT_WHOLE):
            self.bad("years", Plus, Year(1), years)
            self.bad("years", Plus, deep(6), years)

    def test_earlier_and_later(self):
        for date in (Earlier, Later):
            for dates in ((), (Year(1),), (Year(1),) * 5, (None,), (None,) * 5):
                self.bad("many", date, *dates)
            for many in (2, 3, 4):
                self.assertEqual(len(date(*[Year(1)] * many).dates), many)
                for place in range(many):
                    for thing in (*ODD, KIN, Year):
                        dates = [deep(6)] * many
                        dates[place] = thing
                        self.bad("date", date, *dates)

    def test_depth_six_and_one_more(self):
        self.same(deep(6).depth, 6)
        self.bad("depth", Plus, deep(6), 1)
        for date in (Earlier, Later):
            self.same(date(Year(1), deep(5)).depth, 6)
            self.bad("depth", date, deep(6), Year(1))
            self.bad("depth", date, Year(1), Year(1), Year(1), deep(6))


class TestAttributes(FamilyTest):
    """Attributes [2.7], operators [2.8] and texts [2.9]."""

    def told(self, date):
        return (date.depth, date.lives_named, date.happenings, date.class_dates)

    def test_all_are_below_date_and_keep_the_interface(self):
        for date in CLASSES:
            self.assertTrue(issubclass(date, Date))
            self.stands_in(date, "__init__", "__eq__", "__str__")
        self.stands_in(Date, "year", "__add__", "__or__", "__and__")

    def test_parameters(self):
        self.same((Year(3).number, Death("a").life, Survivor("b").life, Happening("war").name), (3, "a", "b", "war"))
        self.assertEqual((Close(KIN).kin, First(KIN, 3).kin, Last(KIN, 4).kin), (KIN, KIN, KIN))
        self.same((First(KIN, 3).what, Last(KIN, "death").what), (3, "death"))
        self.assertEqual(Plus(Year(3), 4).date, Year(3))
        self.same(Plus(Year(3), 4).years, 4)
        dates = (Year(3), Death("a"))
        self.assertEqual(Earlier(*dates).dates, dates)
        self.assertEqual(Later(*dates).dates, dates)
        self.assertIsInstance(Later(*list(dates)).dates, tuple)

    def test_dates_without_inner_dates(self):
        grand = Grandchildren("b")
        for date, wanted in (
                (Year(3), (1, (), (), 0)), (Death("b"), (1, ("b",), (), 0)), (Survivor("b"), (1, ("b",), (), 0)),
                (Happening("war"), (1, (), ("war",), 0)), (Close(KIN), (1, ("a",), (), 0)),
                (Close(grand), (1, ("b",), (), 1)), (First(KIN, "birth"), (1, ("a",), (), 1)),
                (First(KIN, 3), (1, ("a",), (), 1)), (Last(KIN, "death"), (1, ("a",), (), 1)),
                (Last(KIN, 3), (1, ("a",), (), 1))):
            self.same(self.told(date), wanted)

    def test_dates_with_inner_dates(self):
        self.same(self.told(Plus(First(KIN, 3), 5)), (2, ("a",), (), 1))
        self.same(self.told(Plus(Happening("war"), 5)), (2, (), ("war",), 0))
        for date in (Earlier, Later):
            inner = date(Death("c"), First(KIN, 3), Happening("war"), Close(Grandchildren("b")))
            self.same(self.told(inner), (2, ("c", "a", "b"), ("war",), 2))
            outer = date(Plus(Happening("fire"), 2), inner, Plus(inner, 2), Death("b"))
            self.same(self.told(outer), (4, ("c", "a", "b"), ("fire", "war"), 4))
            again = date(Last(KIN, 3), Plus(Last(KIN, 3), 2))
            self.same(self.told(again), (3, ("a",), (), 2))

    def test_operators(self):
        one, other, third = Death("a"), Year(5), Happening("war")
        self.assertEqual(one + 5, Plus(one, 5))
        self.assertEqual(one | other, Earlier(one, other))
        self.assertEqual(one & other, Later(one, other))
        self.assertEqual(one | other | third, Earlier(Earlier(one, other), third))
        self.assertEqual(one & other & third, Later(Later(one, other), third))
        self.assertEqual(one + 2 + 3, Plus(Plus(one, 2), 3))
        self.assertEqual(one & other | third, Earlier(Later(one, other), third))
        self.assertEqual((one | one), Earlier(one, one))
        for date in (*PLAIN, one + 1, one | other, one & other):
            self.assertEqual((date + 0, date | one, date & one), (Plus(date, 0), Earlier(date, one), Later(date, one)))

    def test_operators_raise_what_the_classes_raise(self):
        for thing in ODD:
            self.refused(BadDate, {"what": "years"}, lambda: Year(5) + thing)
            self.refused(BadDate, {"what": "date"}, lambda: Year(5) | thing)
            self.refused(BadDate, {"what": "date"}, lambda: Year(5) & thing)
        for call in (lambda: deep(6) + 1, lambda: deep(6) | Year(1), lambda: Year(1) & deep(6)):
            self.refused(BadDate, {"what": "depth"}, call)

    def test_equal_if_class_and_parameters_are(self):
        a, b, war = Death("a"), Death("b"), Happening("war")
        self.equals_only(Year(5), Year(5), Year(6), a, Plus(Year(5), 0))
        self.equals_only(a, Death("a"), b, Survivor("a"), Happening("a"))
        self.equals_only(Survivor("a"), Survivor("a"), a, Survivor("b"))
        self.equals_only(war, Happening("war"), Happening("fire"), Death("war"))
        self.equals_only(Close(KIN), Close(Children("a")), Close(Children("b")), Close(Grandchildren("a")), KIN)
        self.equals_only(First(KIN, 3), First(Children("a"), 3), First(KIN, 4), First(Children("b"), 3), Last(KIN, 3),
                         First(KIN, "death"))
        self.equals_only(Last(KIN, 3), Last(Children("a"), 3), Last(KIN, 4), Last(Children("b"), 3), First(KIN, 3),
                         Last(KIN, "death"))
        self.equals_only(Plus(a, 3), Plus(Death("a"), 3), Plus(a, 4), Plus(b, 3), a)
        self.equals_only(Earlier(a, b), Earlier(Death("a"), Death("b")), Earlier(b, a), Later(a, b), Earlier(a, b, b))
        self.equals_only(Later(a, b), Later(Death("a"), Death("b")), Later(b, a), Earlier(a, b), Later(a, b, b))
        self.has_no_order(Year(5), Year(5))

    def test_texts(self):
        grand = Grandchildren("b")
        for date, wanted in (
                (Year(5), "year 5"), (Year(-12), "year -12"), (Year(0), "year 0"), (Death("a"), "death of a"),
                (Survivor("a"), "survivor of a"), (Happening("war"), "happening war"),
                (Close(KIN), "close of children of a"), (Close(grand), "close of grandchildren of b"),
                (First(KIN, "birth"), "first birth of children of a"),
                (First(KIN, "death"), "first death of children of a"),
                (First(KIN, 21), "first age 21 of children of a"), (Last(KIN, "death"), "last death of children of a"),
                (Last(KIN, 0), "last age 0 of children of a"), (Plus(Year(-5), 6), "(year -5 plus 6)"),
                (Earlier(Year(5), Death("a")), "earlier(year 5, death of a)"),
                (Later(Year(5), Death("a"), Year(1)), "later(year 5, death of a, year 1)"),
                (Later(Year(1) | Year(2), Year(3) + 4, Year(5), Year(6)),
                 "later(earlier(year 1, year 2), (year 3 plus 4), year 5, year 6)")):
            self.same(str(date), wanted)

    def test_nothing_changes_when_a_year_is_asked(self):
        dates = [date + 1 for date in PLAIN]
        texts = [str(date) for date in dates]
        record = Record(family_lives(), [("died", 3, "a")])
        years = [date.year(record) for date in dates]
        self.assertEqual([date.year(record) for date in dates], years)
        self.assertEqual([str(date) for date in dates], texts)
        self.assertEqual(record, family(("died", 3, "a")))


if __name__ == "__main__":
    unittest.main()
