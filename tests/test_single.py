"""A gift to one member of a class [7.9]."""

import unittest

from lastlife.conditions import By, Unless
from lastlife.customs import Customs
from lastlife.dates import Close, Death, Happening, Year
from lastlife.deed import Deed
from lastlife.errors import NoGift, NoLife, NoRoom, NotAClass, NotMember
from lastlife.gifts import Gift
from lastlife.kin import Children, Grandchildren
from lastlife.lives import Lives
from lastlife.members import member_number
from lastlife.reach import number
from lastlife.record import Record
from lastlife.single import alone
from lastlife.takers import FirstReaching, Living, Mate, Named, Reaching, Told, Whole
from tests.helpers import ODD, Always, FamilyTest
from tests.samples import Dice, futures

KIN = Children("a")
LIVES = Lives(Customs(5), (("a", 50, None), ("b", 10, "a"), ("c", 12, "a"), ("d", 10, "a"), ("e", 3, "b")))
DATE = Death("a") + 25
RULE = By(Death("c"), Year(9))


def deed_of(taker, *rules, **more):
    return Deed(Gift("farm", taker, DATE, *rules, **more))


def rules_of(deed, person, lives=LIVES):
    """The conditions of the gift to this member alone."""
    return alone(deed, "farm", lives, person)["farm"].conditions


class TestAlone(FamilyTest):
    def test_the_example(self):
        lives = Lives(Customs(12, years_after=1, limit=21), (("a", 40, None), ("b", 10, "a")))
        deed = deed_of(Living(KIN))
        gift = alone(deed, "farm", lives, "b")["farm"]
        self.assertEqual(gift, Gift("farm", Named("b"), DATE, By(Year(-10), DATE), By(DATE, Death("b"))))

    def test_each_taker(self):
        for taker, wanted in (
                (Told(KIN), ()), (Whole(KIN), (By(Year(-10), DATE),)),
                (Living(KIN), (By(Year(-10), DATE), By(DATE, Death("b")))),
                (Reaching(KIN, 25), (By(Year(-10), DATE), By(Year(15), Death("b")))),
                (Reaching(KIN, 0), (By(Year(-10), DATE), By(Year(-10), Death("b")))),
                (FirstReaching(KIN, 25), (By(Year(15), DATE), By(Year(15), Death("b")), Unless(Year(13), Death("c"))))):
            self.same(rules_of(deed_of(taker), "b"), wanted)
            self.assertEqual(rules_of(deed_of(taker, RULE), "b"), (RULE, *wanted))

    def test_who_comes_first(self):
        deed = deed_of(FirstReaching(KIN, 25))
        elders = {"b": ("c",), "c": (), "d": ("b", "c")}
        for person, others in elders.items():
            age = LIVES.age(person)
            wanted = [By(Year(25 - age), DATE), By(Year(25 - age), Death(person))]
            wanted += [Unless(Year(25 - LIVES.age(other)), Death(other)) for other in others]
            self.assertEqual(rules_of(deed, person), tuple(wanted))

    def test_all_else_stays(self):
        house = Gift("house", Mate("a"), Year(3), part=(1, 3))
        farm = Gift("farm", Whole(KIN), DATE, RULE, until=Death("c"), part=(1, 2))
        field = Gift("field", Living(KIN), Close(KIN), over="farm")
        deed = Deed(house, farm, field)
        found = alone(deed, "farm", LIVES, "b")
        wanted = Gift("farm", Named("b"), DATE, RULE, By(Year(-10), DATE), until=Death("c"), part=(1, 2))
        self.assertEqual(found, Deed(house, wanted, field))
        found = alone(deed, "field", LIVES, "b")["field"]
        self.assertEqual((found.over, found.until, found.part, found.taker), ("farm", None, (1, 1), Named("b")))
        self.assertEqual(deed, Deed(house, farm, field))

    def test_grandchildren(self):
        self.same(rules_of(deed_of(Whole(Grandchildren("a"))), "e"), (By(Year(-3), DATE),))

    def test_room_for_four_conditions_and_no_more(self):
        for many, taker in ((3, Living(KIN)), (4, Whole(KIN)), (3, Reaching(KIN, 5)), (1, FirstReaching(KIN, 5))):
            deed = deed_of(taker, *[RULE] * many)
            self.refused(NoRoom, {"name": "farm"}, alone, deed, "farm", LIVES, "d")
            deed = deed_of(taker, *[RULE] * (many - 1))
            self.assertEqual(len(rules_of(deed, "d")), 4)
        self.assertEqual(len(rules_of(deed_of(Told(KIN), *[RULE] * 4), "d")), 4)

    def test_ages_at_the_bounds(self):
        lives = Lives(Customs(1), (("a", 10 ** 6, None), ("b", 10 ** 6 - 1, "a")))
        self.assertEqual(rules_of(deed_of(Reaching(KIN, 10 ** 6)), "b", lives)[1], By(Year(1), Death("b")))
        self.assertEqual(rules_of(deed_of(Reaching(KIN, 0)), "b", lives)[1], By(Year(1 - 10 ** 6), Death("b")))

    def test_the_person_takes_in_the_same_records(self):
        met = 0
        for seed in range(6001, 6121):
            dice = Dice(seed)
            lives = dice.lives()
            deed, start = dice.deed(lives), Record(lives)
            for name in deed.names:
                taker = deed[name].taker
                if isinstance(taker, (Named, Mate)):
                    continue
                for person in taker.kin.members(start):
                    try:
                        other = alone(deed, name, lives, person)
                    except NoRoom:
                        continue
                    met += 1
                    records = [dice.record(lives, 8) for _ in range(30)] + futures(start, 0, 1, 4)
                    for record in records:
                        self.assertEqual(person in deed.takers(name, record), other.takers(name, record) == (person,))
                    for record in records[:2]:
                        self.assertEqual(member_number(deed, name, record, person), number(other, name, record))
        self.assertGreater(met, 20)


class TestErrors(FamilyTest):
    def test_the_order(self):
        deed = Deed(Gift("x", Mate("p"), Death("q")), Gift("y", Named("a"), Year(4), over="x"))
        for thing in (*ODD, "w", 1, Always()):
            self.refused(NoGift, {"name": thing}, alone, deed, thing, LIVES, "z")
        self.refused(NoLife, {"name": "p"}, alone, deed, "y", LIVES, "z")
        for taker in (Named("a"), Mate("a")):
            self.refused(NotAClass, {"name": "farm"}, alone, deed_of(taker), "farm", LIVES, "z")
        full = deed_of(Whole(KIN), RULE, RULE, RULE, RULE)
        for thing in (*ODD, "z", "war", 1, Always()):
            self.refused(NoLife, {"name": thing}, alone, full, "farm", LIVES, thing)
        for person in "ae":
            self.refused(NotMember, {"name": person}, alone, full, "farm", LIVES, person)
        self.refused(NoRoom, {"name": "farm"}, alone, full, "farm", LIVES, "b")

    def test_only_the_chain_is_asked_for_lives(self):
        other = Gift("x", Mate("p"), Happening("q"), part=(1, 2))
        deed = Deed(other, Gift("farm", Told(KIN), DATE, part=(1, 2)))
        self.assertEqual(alone(deed, "farm", LIVES, "b")["farm"].taker, Named("b"))


if __name__ == "__main__":
    unittest.main()
