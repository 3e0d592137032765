"""Records in which gifts have takers or none, and what of a deed is idle or sure [9.6] to [9.9]."""

import unittest

from lastlife.alike import alike
from lastlife.cases import case_fault, idle_conditions, idle_gifts, least_case, sure_gifts
from lastlife.conditions import By, Unless
from lastlife.customs import Customs
from lastlife.dates import Close, Death, First, Happening, Year
from lastlife.deed import Deed
from lastlife.errors import BadCase, NoGift, NoLife
from lastlife.gifts import Gift
from lastlife.kin import Children, Grandchildren
from lastlife.lives import Lives
from lastlife.record import Record
from lastlife.takers import FirstReaching, Living, Mate, Named, Reaching, Told, Whole
from tests.helpers import ODD, Always, FamilyTest
from tests.samples import Dice, futures

ANN = Children("ann")
L = Lives(Customs(15), [("ann", 30, None), ("bob", 5, "ann")])
E = Deed(Gift("house", Living(ANN), Death("ann")), Gift("field", Named("bob"), Death("ann"), over="house"))
SALE, WAR = Happening("sale"), Happening("war")


def row_of_gifts(*gifts):
    """A deed of roots with these takers, dates and conditions."""
    return Deed(*[Gift("abcdefgh"[at], *gift, part=(1, len(gifts))) for at, gift in enumerate(gifts)])


class CaseTest(FamilyTest):
    def case(self, wanted, deed, takes=(), fails=(), lives=L):
        """The record has so many rows, and no fewer; None tells that there is none."""
        found = self.quick(least_case, deed, lives, takes=takes, fails=fails)
        self.assertEqual(found if found is None else len(found), wanted)
        self.assertIsNone(self.quick(case_fault, deed, lives, found, takes=takes, fails=fails))
        if found is not None:
            self.assertIs(found.__class__, Record)
            self.assertEqual(found.lives, lives)
            self.assertTrue(all(deed.takers(name, found) for name in takes))
            self.assertFalse(any(deed.takers(name, found) for name in fails))
        return found


class TestLeastCase(CaseTest):
    def test_the_example(self):
        found = self.case(1, E, ("field",))
        self.same(found.rows[0][2], "bob")

    def test_without_any_name(self):
        self.assertEqual(self.case(0, E), Record(L))

    def test_one_name(self):
        for takes, fails, wanted in ((["house"], (), 0), (("field",), (), 1), ((), ["house"], 1), ((), ("field",), 0)):
            self.case(wanted, E, takes, fails)

    def test_two_names(self):
        for takes, fails, wanted in ((("house",), ("field",), 0), (("field",), ("house",), 1), (("house", "field"), (), None),
                                     ((), ("house", "field"), None)):
            self.case(wanted, E, takes, fails)
            self.case(wanted, E, takes[::-1], fails[::-1])

    def test_roots_together(self):
        bob = Named("bob")
        deed = row_of_gifts((bob, SALE, By(SALE, WAR)), (bob, WAR, By(WAR, SALE)), (bob, WAR, By(WAR + 1, SALE)),
                            (Mate("ann"), SALE), (Living(ANN), Year(9)), (bob, Year(0), Unless(Year(0), Year(1))))
        for takes, fails, wanted in (
                ("a", "", 1), ("b", "", 1), ("ab", "", 2), ("bc", "", 1), ("ac", "", None), ("a", "b", 1), ("c", "b", None),
                ("d", "", 2), ("ad", "", 2), ("bd", "", 3), ("", "e", 1), ("a", "e", 2), ("", "ae", 1), ("", "de", 1),
                ("f", "", None), ("", "f", 0), ("af", "", None), ("a", "f", 1), ("d", "e", 3)):
            self.case(wanted, deed, tuple(takes), tuple(fails))

    def test_newcomers_and_their_parents(self):
        lives = Lives(Customs(2, years_after=1), (("a", 40, None),))
        kin, below = Children("a"), Grandchildren("a")
        deed = row_of_gifts((Whole(below), Death("a")), (Reaching(kin, 9), Year(7)), (FirstReaching(below, 3), WAR),
                            (Living(kin), Close(kin), By(First(kin, "death"), Death("a"))))
        for takes, fails, wanted in (("a", "", 2), ("b", "", 1), ("c", "", 3), ("d", "", 4), ("ac", "", 3), ("a", "b", 2),
                                     ("ad", "", 5), ("b", "a", 1), ("", "ab", 0)):
            self.case(wanted, deed, tuple(takes), tuple(fails), lives)

    def test_a_newcomer_who_takes_a_gift_ahead(self):
        deed = Deed(Gift("mill", Whole(Children("bob")), Year(50)), Gift("house", Named("ann"), Year(0), over="mill"))
        self.case(1, deed, (), ("house",))
        self.case(0, deed, ("house",))
        self.case(1, deed, ("mill",), ("house",))

    def test_errors(self):
        bad = Deed(Gift("x", Mate("p"), Death("q")), Gift("y", Named("ann"), Death("r"), over="x"))
        for call in (least_case, lambda *told, **more: case_fault(*told, 3, **more)):
            for thing in (*ODD, "w", 1, Always()):
                self.refused(NoGift, {"name": thing}, call, bad, L, takes=["y", thing, "v"], fails=("u",))
                self.refused(NoGift, {"name": thing}, call, bad, L, takes=["y"], fails=("y", thing))
            self.refused(NoGift, {"name": "u"}, call, bad, L, takes=("y",), fails=["u"])
            self.refused(NoLife, {"name": "p"}, call, bad, L, takes=("y",))
            self.refused(NoLife, {"name": "p"}, call, bad, L, fails=("x", "x", "x"))
            for takes, fails in ((("house", "field", "house"), ()), (("house",), ("house", "house")), ((), ("field",) * 3)):
                self.refused(BadCase, {"what": "many"}, call, E, L, takes=takes, fails=fails)
            for takes, fails in ((("house", "house"), ()), (["house"], ["house"]), ((), ("field", "field"))):
                self.refused(BadCase, {"what": "double"}, call, E, L, takes=takes, fails=fails)


class TestCaseFault(FamilyTest):
    def judged(self, found, takes=("field",), fails=(), deed=E):
        return case_fault(deed, L, found, takes=takes, fails=fails)

    def test_words(self):
        shown = Record(L, (("died", 1, "bob"),))
        other_lives = Record(Lives(Customs(14), L.rows), shown.rows)
        for thing in (*[odd for odd in ODD if odd is not None], shown.rows, L, other_lives, Always()):
            self.assertEqual(self.judged(thing), "record")
        for found, takes, fails, what in (
                (shown, ("field",), (), None), (Record(L, (("died", 70, "bob"),)), ("field",), (), None),
                (None, ("field",), (), "possible"), (None, ("house", "field"), (), None), (Record(L), ("field",), (), "takes"),
                (shown, ("house", "field"), (), "takes"), (shown, ("field",), ("house",), None),
                (shown, (), ("field",), "fails"), (shown, ("house",), ("field",), "takes"), (shown, (), ("house",), None),
                (Record(L, (("happened", 3, "war"),)), ("house",), (), "fewest"), (Record(L), ("house",), (), None),
                (shown.after(("died", 3, "ann")), ("field",), (), "fewest"), (Record(L), (), (), None), (shown, (), (), "fewest"),
                (None, (), (), "possible")):
            self.assertEqual(self.judged(found, takes, fails), what)


class TestIdleConditions(FamilyTest):
    def check(self, wanted, deed, name="house", lives=L):
        self.same(self.quick(idle_conditions, deed, name, lives), wanted)

    def test_the_example(self):
        rules = (By(Death("ann"), SALE), By(Death("ann"), Death("ann") + 1))
        self.check((1,), Deed(Gift("house", Named("bob"), Death("ann"), *rules)))

    def test_conditions(self):
        rule, other = By(SALE, WAR), By(SALE, WAR & WAR)
        for rules, wanted in (((), ()), ((rule,), ()), ((rule, rule), (0, 1)), ((rule, other), (0, 1)),
                              ((rule, other, rule, rule), (0, 1, 2, 3)), ((rule, By(SALE, Year(9))), ()),
                              ((By(SALE, Year(9)), By(SALE, Year(8))), (0,)), ((By(SALE, SALE),), (0,)),
                              ((Unless(SALE, SALE),), ()), ((Unless(SALE, SALE), rule), (1,))):
            self.check(wanted, Deed(Gift("house", Named("bob"), SALE, *rules)))

    def test_conditions_that_cannot_both_be_left_out(self):
        one, other = By(SALE, Year(9)), By(SALE, Year(9) | Year(11))
        deed = Deed(Gift("house", Named("bob"), SALE, one, other))
        self.check((0, 1), deed)
        self.assertFalse(alike(deed, "house", Deed(Gift("house", Named("bob"), SALE)), "house", L))
        self.assertTrue(alike(deed, "house", Deed(Gift("house", Named("bob"), SALE, one)), "house", L))

    def test_a_gift_over_another_one(self):
        first = Gift("house", Named("bob"), SALE)
        rules = (Unless(SALE, Year(5)), By(Year(5), SALE), By(Year(3), WAR))
        self.check((0, 1), Deed(first, Gift("field", Named("bob"), Year(3), *rules, over="house")), "field")
        self.check((), Deed(first, Gift("field", Named("bob"), Year(3), rules[2], over="house")), "field")
        sure = Gift("house", Named("bob"), Year(3))
        self.check((0, 1, 2), Deed(sure, Gift("field", Named("bob"), Year(3), *rules, over="house")), "field")
        self.check((), Deed(sure, Gift("field", Named("bob"), Year(3), *rules, over="house")))

    def test_errors(self):
        bad = Deed(Gift("x", Mate("p"), Death("q")), Gift("y", Named("ann"), Death("r"), over="x"))
        for thing in (*ODD, "w", 1, Always()):
            self.refused(NoGift, {"name": thing}, idle_conditions, bad, thing, L)
        self.refused(NoLife, {"name": "p"}, idle_conditions, bad, "y", L)


class TestIdleAndSureGifts(FamilyTest):
    def check(self, idle, sure, deed, lives=L):
        self.same(self.quick(idle_gifts, deed, lives), tuple(idle))
        self.same(self.quick(sure_gifts, deed, lives), tuple(sure))

    def test_the_example(self):
        self.check((), (), E)
        self.check((), ("house",), Deed(Gift("house", Whole(ANN), Death("ann"))))

    def test_roots(self):
        bob = Named("bob")
        deed = row_of_gifts((bob, Year(-9)), (bob, SALE), (bob, Year(0), Unless(Year(0), Year(1))), (Told(ANN), SALE | Death("bob")),
                            (Mate("ann"), Year(3)), (Told(Children("bob")), Year(3)), (Whole(Children("bob")), Year(9)),
                            (Whole(Children("bob")), Year(10)))
        self.check("cfg", "ad", deed)

    def test_a_gift_over_a_sure_gift_is_idle(self):
        for taker in (Named("bob"), Mate("ann"), Whole(ANN)):
            deed = Deed(Gift("house", Told(ANN), Year(3)), Gift("field", taker, Death("ann"), over="house"),
                        Gift("mill", taker, SALE, over="field"))
            self.check(("field", "mill"), ("house",), deed)

    def test_a_gift_over_an_idle_gift(self):
        deed = Deed(Gift("house", Told(Children("bob")), Year(3)), Gift("field", Named("ann"), Year(3), over="house"))
        self.check(("house",), ("field",), deed)

    def test_gifts_that_are_sure_together(self):
        """One of both always has takers, though neither is sure."""
        deed = Deed(Gift("house", Living(ANN), Death("ann")), Gift("field", Named("ann"), Year(3), over="house"))
        self.check((), (), deed)

    def test_errors(self):
        bad = Deed(Gift("x", Mate("ann"), Death("q"), By(Death("r"), Year(3))), Gift("y", Named("p"), Death("r"), over="x"))
        for call in (idle_gifts, sure_gifts):
            self.refused(NoLife, {"name": "q"}, call, bad, L)
            bad_over = Deed(Gift("x", Mate("ann"), Year(3)), Gift("y", Named("p"), Death("r"), over="x"))
            self.refused(NoLife, {"name": "p"}, call, bad_over, L)


class TestSmallWorlds(CaseTest):
    def test_deeds_by_chance(self):
        for seed in range(9301, 9381):
            dice = Dice(seed)
            lives = dice.lives(3)
            deed = dice.deed(lives)
            records = futures(Record(lives), 0, 2, 4)
            for _ in range(30):
                record = Record(lives)
                for _ in range(8):
                    record = dice.longer(record)
                    records.append(record)
            takers = {name: [bool(deed.takers(name, record)) for record in records] for name in deed.names}
            idle, sure = idle_gifts(deed, lives), sure_gifts(deed, lives)
            for name in deed.names:
                self.assertFalse(name in idle and any(takers[name]))
                self.assertFalse(name in sure and not all(takers[name]))
                shown = least_case(deed, lives, takes=(name,))
                self.assertEqual(name in idle, shown is None)
                self.assertEqual(name in sure, least_case(deed, lives, fails=(name,)) is None)
            for takes, fails in self.choices(deed.names):
                found = least_case(deed, lives, takes=takes, fails=fails)
                self.assertIsNone(case_fault(deed, lives, found, takes=takes, fails=fails))
                seen = [len(record) for at, record in enumerate(records)
                        if all(takers[name][at] for name in takes) and not any(takers[name][at] for name in fails)]
                if found is None:
                    self.assertEqual(seen, [])
                else:
                    self.assertLessEqual(len(found), min(seen, default=len(found)))

    def choices(self, names):
        """At most two names each, some to have takers and some to have none."""
        for name in names:
            yield (name,), ()
            yield (), (name,)
            for other in names:
                if other != name:
                    yield (name,), (other,)
                    yield (name, other), ()
                    yield (), (name, other)

    def test_idle_conditions_by_chance(self):
        met = 0
        for seed in range(9401, 9501):
            dice = Dice(seed)
            lives = dice.lives(2)
            deed = dice.deed(lives)
            for gift in deed:
                idle = idle_conditions(deed, gift.name, lives)
                for at in range(len(gift.conditions)):
                    rules = [rule for index, rule in enumerate(gift.conditions) if index != at]
                    other = deed.with_gift(Gift(gift.name, gift.taker, gift.date, *rules, over=gift.over))
                    self.assertEqual(at in idle, alike(deed, gift.name, other, gift.name, lives))
                    met += at in idle
        self.assertGreater(met, 20)


if __name__ == "__main__":
    unittest.main()
