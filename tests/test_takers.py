"""Takers [3.1] to [3.4]."""

import unittest

from lastlife.customs import Customs
from lastlife.errors import BadTaker, NoLife
from lastlife.kin import Children, Grandchildren
from lastlife.lives import Lives
from lastlife.record import Record
from lastlife.takers import FirstReaching, Living, Mate, Named, Reaching, Taker, Told, Whole
from lastlife.years import LATE, MOST
from tests.helpers import NOT_NAMES, NOT_WHOLE, ODD, FamilyTest, family, small_records

KIN = Children("a")
GRAND = Grandchildren("a")
OF_KIN = (Told, Whole, Living)
OF_AGE = (Reaching, FirstReaching)


def example():
    """The record of the example of [3.3]."""
    lives = Lives(Customs(), [("a", 40, None), ("b", 10, "a")])
    return Record(lives, (("born", 2, "a", "c"), ("died", 5, "a"), ("died", 9, "c")))


class TestTakers(FamilyTest):
    def test_the_example(self):
        record = example()
        for taker, year, wanted in (
                (Whole(KIN), 1, ("b",)), (Whole(KIN), 2, ("b", "c")), (Living(KIN), 9, ("b", "c")),
                (Living(KIN), 10, ("b",)), (Reaching(KIN, 7), 2, ("b", "c")), (Reaching(KIN, 8), 2, ("b",)),
                (FirstReaching(KIN, 18), 7, ()), (FirstReaching(KIN, 18), 8, ("b",))):
            self.same(taker.of(record, year), wanted)

    def test_named(self):
        for year in (-5, 0, 4, LATE, LATE + 9):
            self.same(Named("a").of(example(), year), ("a",))
            self.same(Named("b").of(example(), year), ("b",))

    def test_mate(self):
        record = family(("wed", 3, "a", "m"), ("wed", 5, "a", "n"), ("died", 6, "n"))
        for year in (-5, 0, 4, LATE, LATE + 9):
            self.same((Mate("a").of(record, year), Mate("b").of(record, year)), (("n",), ()))
            self.same(Mate("a").of(record.until(4), year), ("m",))

    def test_told(self):
        record = family(("born", 2, "a", "d"), ("born", 3, "b", "e"), ("died", 4, "b"))
        for year in (-99, 0, 4, 5, LATE, LATE + 9):
            self.same((Told(KIN).of(record, year), Told(GRAND).of(record, year)), (("b",), ()))

    def test_whole(self):
        record = family(("born", 2, "a", "d"), ("born", 3, "b", "e"), ("died", 4, "d"), ("died", 5, "b"))
        for year, children, grandchildren in (
                (-11, (), ()), (-10, ("b",), ()), (1, ("b",), ()), (2, ("b", "d"), ()), (3, ("b", "d"), ("e",)),
                (99, ("b", "d"), ("e",)), (LATE + 1, ("b", "d"), ("e",))):
            self.same((Whole(KIN).of(record, year), Whole(GRAND).of(record, year)), (children, grandchildren))

    def test_living(self):
        record = family(("born", 2, "a", "d"), ("born", 3, "a", "e"), ("died", 4, "d"), ("died", 7, "b"))
        for year, wanted in ((-11, ()), (-10, ("b",)), (2, ("b", "d")), (4, ("b", "d", "e")), (5, ("b", "e")),
                             (7, ("b", "e")), (8, ("e",)), (LATE, ("e",)), (LATE + 1, ())):
            self.same(Living(KIN).of(record, year), wanted)

    def test_reaching(self):
        record = family(("born", 2, "a", "d"), ("born", 3, "a", "e"), ("died", 9, "d"))
        for age, year, wanted in (
                (0, -11, ()), (0, 3, ("b", "d", "e")), (7, 3, ("b", "d", "e")), (8, 3, ("b", "e")), (7, 1, ("b",)),
                (MOST, 3, ("b", "e")), (7, LATE + 1, ("b", "d", "e"))):
            self.same(Reaching(KIN, age).of(record, year), wanted)

    def test_first_reaching(self):
        record = family(("born", 2, "a", "d"), ("born", 3, "a", "e"), ("died", 9, "b"))
        for age, year, wanted in (
                (0, -11, ()), (0, -10, ("b",)), (19, 8, ()), (19, 9, ("b",)), (19, LATE, ("b",)), (20, 10, ()),
                (20, 21, ()), (20, 22, ("d",)), (20, 23, ("d",)), (MOST, LATE, ("d",)), (MOST, 10 ** 6 + 1, ())):
            self.same(FirstReaching(KIN, age).of(record, year), wanted)

    def test_of_several_that_tie_the_first_member_takes(self):
        twins = (("born", 5, "c", "x"), ("born", 5, "c", "y"), ("born", 5, "c", "z"))
        kin = Children("c")
        self.same(FirstReaching(kin, 3).of(family(*twins), 8), ("x",))
        self.same(FirstReaching(kin, 3).of(family(*twins, ("died", 6, "x")), 8), ("y",))
        lives = Lives(Customs(), (("c", 40, None), ("z", 10, "c"), ("b", 10, "c")))
        self.same(FirstReaching(kin, 3).of(Record(lives), 8), ("z",))

    def test_the_least_year_takes_though_it_is_no_first_member(self):
        lives = Lives(Customs(), (("c", 40, None), ("z", 10, "c"), ("b", 11, "c")))
        self.same(FirstReaching(Children("c"), 12).of(Record(lives), 9), ("b",))

    def test_a_kin_without_members(self):
        for taker in (Told, Whole, Living):
            self.same(taker(Children("c")).of(family(), 5), ())
        for taker in OF_AGE:
            self.same(taker(Children("c"), 5).of(family(), 5), ())

    def test_rows_behind_the_year_are_read_too(self):
        record = family(("born", 2, "a", "d"), ("died", 9, "d"))
        self.same(Reaching(KIN, 8).of(record, 2), ("b",))
        self.same(Living(KIN).of(record, 2), ("b", "d"))
        self.same(Mate("a").of(family(("wed", 9, "a", "m")), 2), ("m",))

    def test_the_order_of_the_members_is_kept(self):
        record = family(("born", 2, "a", "z"), ("born", 3, "a", "d"), ("born", 4, "z", "y"), ("born", 5, "b", "x"))
        for taker in (Whole(KIN), Living(KIN), Reaching(KIN, 1)):
            self.same(taker.of(record, 9), ("b", "z", "d"))
        self.same(Whole(GRAND).of(record, 9), ("y", "x"))

    def test_each_person_at_most_once_and_members_alone(self):
        takers = [*[made(kin) for made in OF_KIN for kin in (KIN, GRAND)],
                  *[made(kin, age) for made in OF_AGE for kin in (KIN, GRAND) for age in (0, 3, 14)]]
        for record in small_records(3):
            for taker in takers:
                members = taker.kin.members(record)
                for year in (-11, 2, 5, 9, LATE, LATE + 1):
                    found = taker.of(record, year)
                    self.assertIsInstance(found, tuple)
                    self.assertEqual(list(found), [member for member in members if member in found])

    def test_no_life(self):
        record = family(("born", 2, "a", "d"), ("wed", 3, "a", "m"))
        for name in ("z", "d", "m"):
            takers = [Named(name), Mate(name)]
            for kin in (Children(name), Grandchildren(name)):
                takers = [*takers, *[made(kin) for made in OF_KIN], *[made(kin, 5) for made in OF_AGE]]
            for taker in takers:
                self.refused(NoLife, {"name": name}, taker.of, record, 4)

    def test_wrong_life(self):
        for taker in (Named, Mate):
            for thing in NOT_NAMES:
                self.refused(BadTaker, {"what": "life"}, taker, thing)

    def test_wrong_kin_comes_ahead_of_wrong_age(self):
        for thing in (*ODD, "a", 5, Children, Named("a")):
            for taker in OF_KIN:
                self.refused(BadTaker, {"what": "kin"}, taker, thing)
            for taker in OF_AGE:
                self.refused(BadTaker, {"what": "kin"}, taker, thing, 5)
                self.refused(BadTaker, {"what": "kin"}, taker, thing, -1)

    def test_wrong_age(self):
        for taker in OF_AGE:
            for age in (0, MOST):
                self.same(taker(KIN, age).age, age)
            for thing in (-1, MOST + 1, *NOT_WHOLE):
                self.refused(BadTaker, {"what": "age"}, taker, KIN, thing)

    def test_fields(self):
        for taker in (Named, Mate):
            self.same((taker("a").life, taker("a").lives_named), ("a", ("a",)))
        for taker in (*[made(GRAND) for made in OF_KIN], *[made(GRAND, 5) for made in OF_AGE]):
            self.assertEqual(taker.kin, GRAND)
            self.same(taker.lives_named, ("a",))

    def test_the_interface_stands_in_each_class(self):
        for taker in (Named, Mate, *OF_KIN, *OF_AGE):
            self.assertTrue(issubclass(taker, Taker))
            self.stands_in(taker, "__init__", "of", "__eq__", "__str__")

    def test_equal_if_class_and_fields_are(self):
        self.equals_only(Named("a"), Named("a"), Named("b"), Mate("a"), Told(KIN))
        self.equals_only(Mate("a"), Mate("a"), Mate("b"), Named("a"))
        for taker in OF_KIN:
            others = [made(KIN) for made in OF_KIN if made is not taker]
            self.equals_only(taker(KIN), taker(Children("a")), taker(Children("b")), taker(GRAND), *others, KIN)
        for taker in OF_AGE:
            others = [made(KIN, 5) for made in OF_AGE if made is not taker]
            self.equals_only(taker(KIN, 5), taker(Children("a"), 5), taker(Children("b"), 5), taker(KIN, 6), *others)
        self.has_no_order(Named("a"), Named("a"))

    def test_texts(self):
        for taker, wanted in (
                (Named("a"), "life a"), (Mate("a"), "mate of a"), (Told(KIN), "told children of a"),
                (Whole(GRAND), "whole grandchildren of a"), (Living(KIN), "living children of a"),
                (Reaching(KIN, 25), "reaching 25 children of a"),
                (FirstReaching(GRAND, 0), "first reaching 0 grandchildren of a")):
            self.same(str(taker), wanted)


if __name__ == "__main__":
    unittest.main()
