"""Two gifts in all records of some lives [9.1] to [9.5] [9.9]."""

import itertools
import unittest

from lastlife.alike import alike, differing, parting, parting_fault
from lastlife.conditions import By, Unless
from lastlife.customs import Customs
from lastlife.dates import Close, Death, Earlier, First, Happening, Last, Later, Plus, Survivor, Year
from lastlife.deed import Deed
from lastlife.errors import NoGift, NoLife
from lastlife.gifts import Gift
from lastlife.kin import Children, Grandchildren
from lastlife.lives import Lives
from lastlife.reach import number
from lastlife.record import Record
from lastlife.takers import FirstReaching, Living, Mate, Named, Reaching, Told, Whole
from tests.helpers import ODD, Always, FamilyTest
from tests.samples import Dice, futures

ANN = Children("ann")
L = Lives(Customs(15), [("ann", 30, None), ("bob", 5, "ann")])
D = Deed(Gift("house", Whole(ANN), Death("ann")))
E = Deed(Gift("house", Living(ANN), Death("ann")), Gift("field", Named("bob"), Death("ann"), over="house"))
SALE, WAR = Happening("sale"), Happening("war")
ANN_DIES, BOB_DIES = Death("ann"), Death("bob")
NEVER = Deed(Gift("house", Mate("a"), Year(0), Unless(Year(0), Year(1))))


def house(taker, date, *rules):
    return Deed(Gift("house", taker, date, *rules))


class AlikeTest(FamilyTest):
    def parted(self, wanted, one, other, lives=L, names=("house", "house"), **more):
        """The gifts are parted by a record of so many rows, and no fewer; None tells that they deal alike."""
        found = self.quick(parting, one, names[0], other, names[1], lives, **more)
        self.assertEqual(found if found is None else len(found), wanted, [str(deed.gifts[-1].date) for deed in (one, other)])
        self.assertIsNone(self.quick(parting_fault, one, names[0], other, names[1], lives, found, **more))
        back = parting(other, names[1], one, names[0], lives, **more)
        self.assertEqual(back if back is None else len(back), wanted)
        if not more:
            self.same(self.quick(alike, one, names[0], other, names[1], lives), wanted is None)
        if found is not None:
            self.assertIs(found.__class__, Record)
            self.assertEqual(found.lives, lives)
            takers, others = set(one.takers(names[0], found)), set(other.takers(names[1], found))
            person = more.get("person")
            self.assertTrue(takers != others if person is None else person in takers ^ others)
        return found


class TestParting(AlikeTest):
    def test_the_example(self):
        found = self.parted(1, D, E)
        self.same((found.rows[0][0], found.rows[0][2]), ("died", "bob"))
        self.parted(None, D, E, person="ann")
        self.parted(1, D, E, person="bob")
        self.same(differing(D, E, L), ("house", "field"))
        same = house(Whole(ANN), Death("ann") | (Death("ann") & SALE))
        self.parted(None, D, same)

    def test_gifts_that_deal_alike(self):
        bob = Named("bob")
        for one, other in (
                ((bob, ANN_DIES), (bob, BOB_DIES)), ((bob, ANN_DIES), (bob, Year(7))), ((bob, Year(7)), (bob, Year(-7))),
                ((Told(ANN), ANN_DIES), (Whole(ANN), Year(0))), ((Told(ANN), ANN_DIES), (Named("bob"), Survivor("ann"))),
                ((Whole(ANN), ANN_DIES + 1), (Whole(ANN), Close(ANN))), ((Reaching(ANN, 0), Close(ANN)), (Whole(ANN), Close(ANN))),
                ((Whole(ANN), ANN_DIES + 1), (Whole(ANN), ANN_DIES + 5)), ((Whole(ANN), ANN_DIES), (Reaching(ANN, 0), ANN_DIES)),
                ((Living(ANN), ANN_DIES & Year(0)), (Living(ANN), ANN_DIES)), ((Living(ANN), Year(0)), (Told(ANN), SALE | Year(0))),
                ((bob, SALE, By(SALE, WAR)), (bob, SALE, Unless(WAR + 1, SALE))),
                ((bob, SALE), (bob, Earlier(SALE, SALE & WAR))), ((bob, SALE), (bob, ANN_DIES, By(SALE, WAR & Last(ANN, 3) & SALE))),
                ((bob, ANN_DIES, By(SALE, WAR)), (bob, Year(3), By(Year(1), Year(2)), By(SALE, WAR))),
                ((FirstReaching(ANN, 0), ANN_DIES), (bob, ANN_DIES)),
                ((bob, First(ANN, "birth")), (bob, Year(3))), ((bob, First(ANN, 6)), (bob, ANN_DIES))):
            self.parted(None, house(*one), house(*other))

    def test_gifts_like_them_but_for_one_place(self):
        bob = Named("bob")
        for wanted, one, other in (
                (0, (bob, ANN_DIES), (Named("ann"), ANN_DIES)), (0, (Told(ANN), ANN_DIES), (Whole(ANN), Year(-6))),
                (1, (Told(ANN), ANN_DIES), (Whole(ANN), ANN_DIES)), (2, (Whole(ANN), ANN_DIES), (Whole(ANN), Close(ANN))),
                (2, (Whole(ANN), ANN_DIES + 1), (Whole(ANN), ANN_DIES)), (1, (Reaching(ANN, 7), ANN_DIES), (Whole(ANN), ANN_DIES)),
                (2, (Reaching(ANN, 6), ANN_DIES), (Whole(ANN), ANN_DIES)), (2, (bob, SALE, By(SALE, WAR)), (bob, SALE, Unless(WAR, SALE))),
                (0, (bob, SALE), (bob, SALE | Year(5))), (1, (bob, SALE), (bob, SALE & WAR)), (1, (bob, SALE), (bob, WAR)),
                (2, (bob, SALE & WAR), (bob, SALE & WAR, By(SALE, WAR))), (1, (bob, SALE), (bob, SALE, By(SALE, Year(10 ** 6)))),
                (1, (bob, SALE), (bob, SALE, By(SALE, Year(3)))),
                (2, (bob, SALE), (bob, SALE, By(SALE, ANN_DIES))), (2, (bob, SALE & WAR), (bob, SALE & WAR, By(SALE, WAR | ANN_DIES))),
                (1, (Mate("ann"), Year(0)), (Mate("bob"), Year(0))), (0, (Mate("ann"), Year(0)), (bob, Year(0))),
                (1, (bob, First(ANN, 7)), (bob, ANN_DIES)), (1, (bob, First(Children("bob"), "death") & SALE), (bob, SALE))):
            found = self.parted(wanted, house(*one), house(*other))
            self.assertGreaterEqual(len(found), 0)

    def test_births_of_parents_and_deaths_are_counted(self):
        lives = Lives(Customs(2, years_after=1), (("a", 40, None),))
        below = Grandchildren("a")
        self.parted(2, house(Whole(below), Death("a")), NEVER, lives)
        self.parted(3, house(Whole(below), Death("a")), house(Living(below), Death("a")), lives)
        self.parted(4, house(Whole(below), Close(below) & SALE, By(Death("a"), SALE)), NEVER, lives)
        self.parted(3, house(Whole(below), Year(10 ** 6), By(Death("a"), Year(9))), NEVER, lives)

    def test_the_same_deed_and_the_same_name_twice(self):
        self.parted(None, D, D)
        self.parted(None, E, E, names=("field", "field"))
        self.parted(0, E, E, names=("house", "field"))
        self.parted(None, D, D, person="bob")
        twins = Deed(Gift("one", Named("bob"), Year(3), part=(1, 2)), Gift("two", Named("bob"), SALE | Year(9), part=(1, 2)))
        self.parted(None, twins, twins, names=("one", "two"))

    def test_gifts_ahead(self):
        field = Deed(Gift("field", Named("bob"), Death("ann")))
        self.parted(0, E, field, names=("field", "field"))
        other = Deed(Gift("one", Named("ann"), SALE), Gift("field", Named("bob"), Death("ann"), over="one"))
        self.parted(1, other, field, names=("field", "field"))
        sure = Deed(Gift("one", Named("ann"), SALE | Year(3)), Gift("field", Named("bob"), Death("ann"), over="one"))
        never = house(Mate("ann"), Year(0), Unless(Year(0), Year(1)))
        self.parted(None, sure, never, names=("field", "house"))
        self.parted(None, Deed(Gift("one", Mate("bob"), WAR & Death("ann") & WAR), other.gifts[1]),
                    Deed(Gift("one", Mate("bob"), WAR & Death("ann")), other.gifts[1]), names=("field", "field"))

    def test_a_newcomer_who_takes_a_gift_ahead(self):
        lives = Lives(Customs(12), (("a", 40, None), ("b", 40, None)))
        whole = Gift("house", Whole(Children("a")), Year(9))
        for taker in (Whole(Children("b")), FirstReaching(Children("b"), 3), Whole(Grandchildren("b"))):
            ahead = Gift("mill", taker, Year(90))
            over = Gift("house", whole.taker, whole.date, over="mill")
            wanted = 3 if isinstance(taker.kin, Grandchildren) else 2
            self.parted(wanted, Deed(whole), Deed(ahead, over), lives)
            self.parted(None, Deed(whole), Deed(ahead, over), lives, person="b")

    def test_a_life_that_no_gift_names(self):
        """A life more changes nothing, unless it is a member of a kin."""
        for one, other in ((D, E), (D, D), (house(Reaching(ANN, 50), Close(ANN)), house(Whole(ANN), Close(ANN)))):
            found = parting(one, "house", other, "house", L)
            for row in (("x", 3, None), ("x", 70, None)):
                more = Lives(L.customs, (*L.rows, row))
                self.parted(found if found is None else len(found), one, other, more)
        more = Lives(L.customs, (*L.rows, ("x", 3, "ann")))
        self.parted(0, house(Named("bob"), Year(0)), house(Told(ANN), Year(0)), more)

    def test_persons(self):
        both = Lives(Customs(15), (("ann", 40, None), ("bob", 5, "ann"), ("cid", 9, "ann")))
        one, other = house(Living(ANN), ANN_DIES), house(Told(ANN), ANN_DIES, By(SALE, Death("cid")))
        self.parted(0, one, other, both)
        self.parted(0, one, other, both, person="bob")
        self.parted(None, one, other, both, person="ann")
        one, other = house(FirstReaching(ANN, 20), ANN_DIES), house(Named("cid"), ANN_DIES)
        self.parted(1, one, other, both)
        self.parted(1, one, other, both, person="cid")
        self.parted(1, one, other, both, person="bob")

    def test_two_children_of_one_year(self):
        """Either name can be the first one, so the child of c can come ahead of the one of b."""
        lives = Lives(Customs(1), (("a", 50, None), ("b", 20, "a"), ("c", 20, "a")))
        for life in "bc":
            rule = By(First(Children(life), "birth"), Year(1))
            one = house(FirstReaching(Grandchildren("a"), 5), Year(6), rule)
            self.parted(2, one, house(FirstReaching(Children(life), 5), Year(6)), lives)

    def test_two_class_dates(self):
        lives = Lives(Customs(2, years_after=1), (("a", 40, None),))
        kin = Children("a")
        one = house(Named("a"), First(kin, "birth") & First(kin, 9))
        self.parted(1, one, house(Named("a"), SALE), lives)
        self.parted(2, one, house(Named("a"), First(kin, "birth")), lives)
        self.parted(None, one, house(Named("a"), First(kin, 9) & Year(9)), lives)
        one = house(Named("a"), SALE, By(First(kin, 9), Last(kin, "death")), Unless(First(kin, 9), SALE))
        self.parted(2, one, NEVER, lives)
        # One child can die in the year in which it comes of age, and two are needed if that is too late.
        rules = (By(First(kin, "death"), SALE), By(SALE, First(kin, 9)), By(First(kin, 9), Year(10 ** 6)))
        self.parted(3, house(Named("a"), SALE, *rules), NEVER, lives)
        rules = (rules[0], By(SALE + 1, First(kin, 9)), rules[2])
        self.parted(4, house(Named("a"), SALE, *rules), NEVER, lives)


class TestSmallWorlds(AlikeTest):
    TAKERS = (Whole(Children("a")), Living(Children("a")), Reaching(Children("a"), 2), FirstReaching(Children("a"), 2),
              Mate("a"), Named("a"), Living(Grandchildren("a")))
    DATES = (Death("a"), Year(2), Close(Children("a")), WAR | Death("a"), First(Children("a"), "death"), Survivor("a"))

    def test_no_record_with_fewer_rows_parts_them(self):
        lives = Lives(Customs(1, years_after=1), (("a", 4, None),))
        records = futures(Record(lives), 0, 3, 3)
        gifts = [house(taker, date) for taker in self.TAKERS for date in self.DATES]
        takers = [[deed.takers("house", record) for record in records] for deed in gifts]
        for one, other in list(itertools.combinations(range(len(gifts)), 2))[::5]:
            found = parting(gifts[one], "house", gifts[other], "house", lives)
            seen = [len(record) for record, mine, yours in zip(records, takers[one], takers[other]) if mine != yours]
            if found is None:
                self.assertEqual(seen, [])
            else:
                self.assertNotEqual(gifts[one].takers("house", found), gifts[other].takers("house", found))
                self.assertLessEqual(len(found), min(seen, default=len(found)))

    def test_deeds_by_chance(self):
        for seed in range(9001, 9061):
            dice = Dice(seed)
            lives = dice.lives(3)
            one, other = dice.deed(lives), dice.deed(lives)
            records = futures(Record(lives), 0, 2, 4)
            for _ in range(30):
                record = Record(lives)
                for _ in range(8):
                    record = dice.longer(record)
                    records.append(record)
            for name, other_name in itertools.product(one.names, other.names):
                seen = [len(record) for record in records if one.takers(name, record) != other.takers(other_name, record)]
                found = parting(one, name, other, other_name, lives)
                self.assertEqual(parting_fault(one, name, other, other_name, lives, found), None)
                if found is None:
                    self.assertEqual(seen, [])
                else:
                    self.assertLessEqual(len(found), min(seen, default=len(found)))
                    if len(found):
                        shorter = found.shorter()
                        self.assertEqual(one.takers(name, shorter), other.takers(other_name, shorter))


class TestWhatFollows(AlikeTest):
    def test_gifts_that_deal_alike_have_the_same_number(self):
        met = 0
        for seed in range(9101, 9201):
            dice = Dice(seed)
            lives = dice.lives(2)
            deed, record = dice.deed(lives, 1), dice.record(lives)
            gift = deed["f"]
            for date in (gift.date | (gift.date & WAR), gift.date & Year(0), gift.date + 1, dice.date(lives.names)):
                other = Deed(Gift("f", gift.taker, date, *gift.conditions))
                if alike(deed, "f", other, "f", lives):
                    met += 1
                    self.assertEqual(number(deed, "f", record), number(other, "f", record))
                    third = dice.deed(lives, 1)
                    parts = parting(other, "f", third, "f", lives)
                    if parts is None:
                        self.assertTrue(alike(deed, "f", third, "f", lives))
                    else:
                        self.assertIsNone(parting_fault(deed, "f", third, "f", lives, parts))
        self.assertGreater(met, 100)

    def test_the_limit_does_not_count(self):
        for limit in (0, 5, 10 ** 6):
            lives = Lives(Customs(15, limit=limit), L.rows)
            self.parted(1, D, E, lives)


class TestDiffering(AlikeTest):
    def test_names(self):
        one = Deed(Gift("a", Named("bob"), Year(3), part=(1, 4)), Gift("b", Named("bob"), SALE, part=(1, 4)),
                   Gift("c", Named("bob"), WAR, part=(1, 4)))
        other = Deed(Gift("d", Named("bob"), Year(3), part=(1, 4)), Gift("c", Named("bob"), WAR & Year(3), part=(1, 3)),
                     Gift("b", Named("bob"), SALE & WAR, part=(1, 4)))
        self.same(differing(one, other, L), ("a", "b", "d"))
        self.same(differing(other, one, L), ("d", "b", "a"))
        self.same(differing(one, one, L), ())

    def test_errors(self):
        one = Deed(Gift("a", Mate("ann"), Death("p"), By(Death("q"), Year(3))), Gift("b", Named("r"), Year(3), over="a"))
        other = Deed(Gift("a", Named("s"), Year(3)))
        self.refused(NoLife, {"name": "p"}, differing, one, other, L)
        self.refused(NoLife, {"name": "s"}, differing, D, other, L)
        self.refused(NoLife, {"name": "s"}, differing, other, one, L)


class TestPartingFault(AlikeTest):
    def judged(self, found, one=D, other=E, **more):
        return parting_fault(one, "house", other, "house", L, found, **more)

    def test_words(self):
        shown = Record(L, (("died", 1, "bob"),))
        other_lives = Record(Lives(Customs(14), L.rows), shown.rows)
        for thing in (*[odd for odd in ODD if odd is not None], shown.rows, L, other_lives, Always()):
            self.assertEqual(self.judged(thing), "record")
        for found, what in ((shown, None), (Record(L, (("died", 900, "bob"),)), None), (None, "parted"), (Record(L), "alike"),
                            (Record(L, (("died", 1, "ann"),)), "alike"), (Record(L, (("died", 1, "ann"), ("died", 1, "bob"))), "alike"),
                            (Record(L, (("died", 1, "bob"), ("died", 2, "ann"))), "fewest"),
                            (shown.after(("happened", 3, "war")), "fewest")):
            self.assertEqual(self.judged(found), what)
        self.assertEqual(self.judged(None, D, D), None)
        self.assertEqual(self.judged(shown, D, D), "alike")
        for record, what in ((Record(L), None), (shown, "fewest")):
            self.assertEqual(self.judged(record, house(Named("bob"), Year(0)), house(Named("ann"), Year(0))), what)

    def test_persons(self):
        shown = Record(L, (("died", 1, "bob"),))
        born = Record(L, (("born", 1, "ann", "k"), ("died", 2, "k")))
        self.assertEqual(self.judged(shown, person="bob"), None)
        self.assertEqual(self.judged(shown, person="ann"), "alike")
        self.assertEqual(self.judged(None, person="ann"), None)
        self.assertEqual(self.judged(None, person="bob"), "parted")
        self.assertEqual(self.judged(born, person="bob"), "alike")
        self.assertEqual(self.judged(born), "fewest")
        self.assertEqual(self.judged(shown.after(("died", 2, "ann")), person="bob"), "fewest")


class TestErrors(FamilyTest):
    def test_the_order(self):
        bad = Deed(Gift("x", Mate("p"), Death("q")), Gift("y", Named("ann"), Death("r"), over="x"))
        for call in (parting, alike, lambda *told: parting_fault(*told, 3)):
            for thing in (*ODD, "w", 1, Always()):
                self.refused(NoGift, {"name": thing}, call, bad, thing, bad, "z", L)
                self.refused(NoGift, {"name": thing}, call, bad, "y", D, thing, L)
            self.refused(NoLife, {"name": "p"}, call, bad, "y", bad, "x", L)
            self.refused(NoLife, {"name": "p"}, call, D, "house", bad, "y", L)
            self.refused(NoLife, {"name": "p"}, call, bad, "y", D, "house", L)
        for call in (parting, lambda *told, **more: parting_fault(*told, 3, **more)):
            self.refused(NoLife, {"name": "p"}, call, D, "house", bad, "y", L, person="z")
            for thing in (*[odd for odd in ODD if odd is not None], "z", "house", 1, Always()):
                self.refused(NoLife, {"name": thing}, call, D, "house", E, "house", L, person=thing)

    def test_dates_of_all_kinds(self):
        deep = Plus(Later(Earlier(Death("ann"), SALE), Close(ANN)), 3)
        self.assertFalse(alike(house(Living(ANN), deep), "house", house(Living(ANN), Death("ann")), "house", L))


if __name__ == "__main__":
    unittest.main()
