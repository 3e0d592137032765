"""Gifts [3.6]."""

import unittest

from lastlife.conditions import By, Unless
from lastlife.dates import Close, Death, First, Happening, Last, Year
from lastlife.errors import BadGift
from lastlife.gifts import Gift
from lastlife.kin import Children, Grandchildren
from lastlife.takers import Living, Mate, Named
from tests.helpers import NOT_NAMES, ODD, FamilyTest

KIN = Children("a")
TAKER = Living(KIN)
DATE = Death("a")
RULE = By(Death("b"), Year(5))


class TestGift(FamilyTest):
    def bad(self, what, *things, **more):
        self.refused(BadGift, {"what": what}, Gift, *things, **more)

    def test_fields(self):
        gift = Gift("farm", TAKER, DATE, RULE, ~RULE, over="mill", until=Year(9), part=[3, 3])
        self.same((gift.name, gift.over, gift.part), ("farm", "mill", (1, 1)))
        self.assertEqual((gift.taker, gift.date, gift.until), (TAKER, DATE, Year(9)))
        self.assertEqual(gift.conditions, (RULE, ~RULE))
        self.assertIsInstance(gift.conditions, tuple)

    def test_defaults(self):
        gift = Gift("farm", TAKER, DATE)
        self.same((gift.conditions, gift.over, gift.until, gift.part), ((), None, None, (1, 1)))

    def test_name(self):
        for thing in NOT_NAMES:
            self.bad("name", thing, TAKER, DATE)

    def test_taker(self):
        for thing in (*ODD, "a", KIN, DATE, Living):
            self.bad("taker", "farm", thing, DATE)

    def test_date(self):
        for thing in (*ODD, 5, "year 5", TAKER, RULE, Year):
            self.bad("date", "farm", TAKER, thing)

    def test_conditions(self):
        for many in range(5):
            self.assertEqual(len(Gift("farm", TAKER, DATE, *[RULE] * many).conditions), many)
        self.bad("conditions", "farm", TAKER, DATE, *[RULE] * 5)
        for thing in (*ODD, DATE, By):
            self.bad("conditions", "farm", TAKER, DATE, thing)
            self.bad("conditions", "farm", TAKER, DATE, RULE, RULE, RULE, thing)

    def test_over(self):
        for thing in NOT_NAMES:
            if thing is not None:
                self.bad("over", "farm", TAKER, DATE, over=thing)

    def test_until(self):
        for thing in (*ODD, 5, RULE, Year):
            if thing is not None:
                self.bad("until", "farm", TAKER, DATE, until=thing)

    def test_part(self):
        for part, wanted in (
                ((1, 1), (1, 1)), ([1, 2], (1, 2)), ((2, 6), (1, 3)), ((7, 7), (1, 1)), ((1, 10 ** 6), (1, 10 ** 6)),
                ((10 ** 6, 10 ** 6), (1, 1)), ((999999, 10 ** 6), (999999, 10 ** 6)), ([4, 10 ** 6], (1, 250000))):
            self.same(Gift("farm", TAKER, DATE, part=part).part, wanted)
        for part in ((0, 1), (-1, 1), (2, 1), (1, 0), (-1, -1), (1, 10 ** 6 + 1), (10 ** 6 + 1, 10 ** 6 + 1),
                     (True, 1), (1, True), (1.0, 2), (1, 2.0), (1, 2, 3), (1,), (None, 1), (1, None), ("1", "2"),
                     1, "12", {1: 1, 2: 2}, *ODD):
            self.bad("part", "farm", TAKER, DATE, part=part)

    def test_a_part_other_than_one_beside_over(self):
        for part in ((1, 1), [5, 5], (10 ** 6, 10 ** 6)):
            self.same(Gift("farm", TAKER, DATE, over="mill", part=part).part, (1, 1))
        for part in ((1, 2), [4, 5], (0, 0), (2, 1), (10 ** 6 + 1, 10 ** 6 + 1)):
            self.bad("part", "farm", TAKER, DATE, over="mill", part=part)

    def test_the_order_of_the_words(self):
        wrong = {"over": 1, "until": 1, "part": 1}
        self.bad("name", 1, 1, 1, 1, **wrong)
        self.bad("taker", "farm", 1, 1, 1, **wrong)
        self.bad("date", "farm", TAKER, 1, 1, **wrong)
        self.bad("conditions", "farm", TAKER, DATE, 1, **wrong)
        self.bad("over", "farm", TAKER, DATE, RULE, **wrong)
        self.bad("until", "farm", TAKER, DATE, RULE, **{**wrong, "over": "mill"})
        self.bad("part", "farm", TAKER, DATE, RULE, over="mill", until=DATE, part=1)

    def test_lives_happenings_and_class_dates(self):
        first, last, close = First(Children("e"), 3), Last(KIN, 3), Close(Grandchildren("f"))
        one = By(first | Happening("war"), Death("c") + 2)
        other = Unless(Happening("fire"), close & first & Death("d"))
        gift = Gift("farm", TAKER, last | Happening("war") | Death("b"), one, other, over="mill",
                    until=Death("z") | Happening("end") | first)
        self.same(gift.lives_named, ("a", "b", "e", "c", "f", "d"))
        self.same(gift.happenings, ("war", "fire"))
        self.same(gift.class_dates, 4)

    def test_the_taker_comes_first_and_each_name_once(self):
        gift = Gift("farm", Mate("b"), Death("a") | Happening("war") | Happening("war"),
                    By(Death("b"), Happening("war")), By(Death("a"), Death("c")))
        self.same((gift.lives_named, gift.happenings, gift.class_dates), (("b", "a", "c"), ("war",), 0))
        self.same(Gift("farm", Named("a"), Year(5)).lives_named, ("a",))
        repeat = By(First(KIN, 3), First(KIN, 3))
        self.same(Gift("farm", Named("a"), First(KIN, 3), repeat, repeat).class_dates, 5)

    def test_a_part_that_is_changed_afterwards_has_no_effect(self):
        part = [2, 6]
        gift = Gift("farm", TAKER, DATE, part=part)
        part[0] = 3
        self.same(gift.part, (1, 3))
        self.assertEqual(part, [3, 6])

    def test_equal_if_the_seven_fields_are(self):
        def made(name="farm", taker=TAKER, date=DATE, rules=(RULE, ~RULE), until=Year(9), **more):
            return Gift(name, taker, date, *rules, until=until, **more)

        twin = Gift("farm", Living(Children("a")), Death("a"), By(Death("b"), Year(5)), Unless(Death("b"), Year(5)),
                    until=Year(9), part=[4, 4])
        self.equals_only(made(), twin, made(name="mill"), made(taker=Mate("a")), made(date=Death("b")),
                         made(rules=(~RULE, RULE)), made(rules=(RULE,)), made(over="mill"), made(until=None),
                         made(until=Year(8)), made(part=(1, 2)), "farm")
        self.equals_only(Gift("farm", TAKER, DATE, over="mill"), Gift("farm", TAKER, DATE, over="mill"),
                         Gift("farm", TAKER, DATE, over="field"))
        self.stands_in(Gift, "__eq__")
        self.has_no_order(made(), made())


if __name__ == "__main__":
    unittest.main()
