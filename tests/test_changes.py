"""Changes of deeds [10.1] [10.2]."""

import unittest

from lastlife.changes import changed
from lastlife.conditions import By, Unless
from lastlife.customs import Customs
from lastlife.dates import Close, Death, Earlier, First, Happening, Later, Plus, Survivor, Year
from lastlife.deed import Deed
from lastlife.errors import BadChange, NoLife
from lastlife.gifts import Gift
from lastlife.kin import Children, Grandchildren
from lastlife.lives import Lives
from lastlife.takers import FirstReaching, Living, Mate, Named, Reaching, Told, Whole
from tests.helpers import NOT_NAMES, NOT_WHOLE, ODD, Always, FamilyTest

KIN = Children("a")
L = Lives(Customs(12), [("a", 50, None), ("b", 30, "a"), ("c", 20, None)])
A, B, C = Death("a"), Death("b"), Death("c")
SURVIVOR = Survivor("a")
SALE = Happening("sale")
RULES = (By(A, SALE), Unless(SALE, B), By(Year(3), C), By(C, Year(3)))
MILL = Gift("mill", Reaching(KIN, 25), Close(KIN), *RULES, until=SURVIVOR + 9, part=(1, 2))
REST = Gift("rest", Mate("a"), SURVIVOR, over="mill")
MORE = Gift("more", FirstReaching(Grandchildren("a"), 7), SURVIVOR & SALE, RULES[0], over="rest", until=B)
DEED = Deed(MILL, REST, MORE, Gift("farm", Named("b"), Year(7), part=(1, 2)))


def with_other(gift, taker=None, date=None, rules=None):
    """The gift with another taker, date or conditions; all else stays."""
    return Gift(gift.name, taker or gift.taker, date or gift.date, *(gift.conditions if rules is None else rules),
                over=gift.over, until=gift.until, part=gift.part)


class TestChanged(FamilyTest):
    def check(self, wanted, *changes, deed=DEED, lives=L):
        """The changed deed has these gifts in the places of those of their names."""
        for gift in wanted:
            deed_wanted = deed if gift is wanted[0] else deed_wanted
            deed_wanted = deed_wanted.with_gift(gift)
        before = list(deed.gifts)
        self.assertEqual(changed(deed, lives, changes), deed_wanted if wanted else deed)
        self.assertEqual(changed(deed, lives, [list(change) for change in changes]), deed_wanted if wanted else deed)
        self.assertEqual(list(deed.gifts), before)

    def test_the_example(self):
        deed = Deed(Gift("house", Named("b"), Survivor("a") + 3))
        found = changed(deed, L, [("mate", "house", "a", "b")])["house"].date
        self.assertEqual(found, Later(A, B) + 3)

    def test_without_changes(self):
        self.check(())
        self.assertEqual(changed(DEED, L, []), DEED)

    def test_age(self):
        for age in (0, 21, 25, 10 ** 6):
            self.check([with_other(MILL, Reaching(KIN, age))], ("age", "mill", age))
            self.check([with_other(MORE, FirstReaching(Grandchildren("a"), age))], ("age", "more", age))

    def test_within(self):
        deaths = Later(A, B, C)
        for years in (0, 5, 10 ** 6):
            self.check([with_other(REST, date=Earlier(SURVIVOR, Plus(deaths, years)))], ("within", "rest", years))
        one = Lives(Customs(), [("b", 3, None)])
        deed = Deed(Gift("house", Named("b"), SALE))
        self.check([Gift("house", Named("b"), Earlier(SALE, Plus(B, 4)))], ("within", "house", 4), deed=deed, lives=one)
        two = Lives(Customs(), [("b", 3, None), ("c", 3, None)])
        self.check([Gift("house", Named("b"), Earlier(SALE, Plus(Later(B, C), 4)))], ("within", "house", 4), deed=deed, lives=two)

    def test_told(self):
        self.check([with_other(MILL, Told(KIN))], ("told", "mill"))
        self.check([with_other(MORE, Told(Grandchildren("a")))], ("told", "more"))
        for taker in (Whole(KIN), Living(KIN), Told(KIN)):
            self.check([Gift("house", Told(KIN), SALE)], ("told", "house"), deed=Deed(Gift("house", taker, SALE)))

    def test_mate(self):
        new = Later(A, Death("c"))
        self.check([with_other(REST, date=new)], ("mate", "rest", "a", "c"))
        self.check([with_other(MORE, date=new & SALE)], ("mate", "more", "a", "c"))
        rules = [By(SURVIVOR, Survivor("b") | (SURVIVOR + 2)), Unless(SALE, Plus(Later(SURVIVOR, B, SURVIVOR), 3)), By(A, C)]
        other = [By(new, Survivor("b") | (new + 2)), Unless(SALE, Plus(Later(new, B, new), 3)), By(A, C)]
        deed = Deed(Gift("house", Mate("a"), SURVIVOR, *rules, until=SURVIVOR))
        self.check([Gift("house", Mate("a"), new, *other, until=SURVIVOR)], ("mate", "house", "a", "c"), deed=deed)
        deed = Deed(Gift("house", Mate("a"), SALE, rules[0]))
        self.check([Gift("house", Mate("a"), SALE, By(SURVIVOR, Later(B, C) | (SURVIVOR + 2)))], ("mate", "house", "b", "c"), deed=deed)

    def test_drop(self):
        for index in range(4):
            left = [rule for at, rule in enumerate(RULES) if at != index]
            self.check([with_other(MILL, rules=left)], ("drop", "mill", index))
        self.check([with_other(MILL, rules=RULES[2:3])], ("drop", "mill", 3), ("drop", "mill", 0), ("drop", "mill", 1))
        self.check([with_other(MILL, rules=())], *[("drop", "mill", index) for index in (2, 0, 3, 1)])
        self.check([with_other(MILL, rules=RULES[1:]), with_other(MORE, rules=())], ("drop", "mill", 0), ("drop", "more", 0))

    def test_cut(self):
        farm = DEED["farm"]
        self.assertEqual(changed(DEED, L, [("cut", "more")]), Deed(MILL, REST, farm))
        self.assertEqual(changed(DEED, L, [("cut", "more"), ("cut", "rest")]), Deed(MILL, farm))

    def test_changes_behind_other_ones(self):
        self.check([with_other(MILL, Reaching(KIN, 4))], ("age", "mill", 3), ("age", "mill", 4))
        within = Earlier(Earlier(SURVIVOR, Plus(Later(A, B, C), 3)), Plus(Later(A, B, C), 3))
        self.check([with_other(REST, date=within)], ("within", "rest", 3), ("within", "rest", 3))
        both = Earlier(Later(A, C), Plus(Later(A, B, C), 3))
        self.check([with_other(REST, date=both)], ("within", "rest", 3), ("mate", "rest", "a", "c"))
        self.check([with_other(MILL, Told(KIN), rules=RULES[:3])], ("drop", "mill", 3), ("told", "mill"))
        self.check([with_other(MILL, Told(KIN))], ("age", "mill", 3), ("told", "mill"))


class TestWords(FamilyTest):
    def wrong(self, index, what, *changes, deed=DEED, lives=L):
        self.refused(BadChange, {"index": index, "what": what}, changed, deed, lives, changes)

    def test_change(self):
        good = ("drop", "mill", 0)
        for thing in (*ODD, "age", 1, Always(), ("age",), ("age", "mill"), ("age", "mill", 3, 4), ("told", "mill", 3), ("cut",),
                      ("mate", "rest", "a"), ("mate", "rest", "a", "b", "c"), ("drop", "mill"), ("within", "rest"),
                      ("drops", "mill", 0), (["drop"], "mill", 0), ("Told", "mill")):
            self.wrong(0, "change", thing)
            self.wrong(1, "change", good, thing, thing)
        for thing in NOT_NAMES:
            for change in (("told", thing), ("cut", thing), ("age", thing, 3), ("mate", "rest", thing, "b"),
                           ("mate", "rest", "a", thing)):
                self.wrong(0, "change", change)
        for word in ("age", "within"):
            for thing in (*NOT_WHOLE, -1, 10 ** 6 + 1):
                self.wrong(0, "change", (word, "nobody", thing))
        for thing in (*NOT_WHOLE, -1, 4):
            self.wrong(0, "change", ("drop", "nobody", thing))

    def test_gift(self):
        for change in (("age", "z", 3), ("within", "z", 3), ("told", "z"), ("mate", "z", "q", "q"), ("drop", "z", 3), ("cut", "z")):
            self.wrong(0, "gift", change)
        self.wrong(1, "gift", ("cut", "more"), ("cut", "more"))
        self.wrong(2, "gift", ("cut", "more"), ("told", "mill"), ("age", "more", 3))

    def test_taker(self):
        for taker in (Named("b"), Mate("a"), Whole(KIN), Living(KIN), Told(KIN)):
            deed = Deed(Gift("house", taker, SALE))
            self.wrong(0, "taker", ("age", "house", 3), deed=deed)
            if isinstance(taker, (Named, Mate)):
                self.wrong(0, "taker", ("told", "house"), deed=deed)
        self.wrong(1, "taker", ("told", "mill"), ("age", "mill", 3))

    def test_life_and_survivor(self):
        for life, other in (("z", "b"), ("a", "z"), ("a", "a"), ("b", "b"), ("z", "z")):
            self.wrong(0, "life", ("mate", "mill", life, other))
        self.wrong(0, "survivor", ("mate", "rest", "b", "a"))
        # Only until names the survivor.
        self.wrong(0, "survivor", ("mate", "mill", "a", "b"))
        self.wrong(1, "survivor", ("mate", "rest", "a", "b"), ("mate", "rest", "a", "b"))

    def test_condition(self):
        self.wrong(0, "condition", ("drop", "rest", 0))
        self.wrong(0, "condition", ("drop", "more", 1))
        self.wrong(1, "condition", ("drop", "mill", 2), ("drop", "mill", 2))
        self.wrong(2, "condition", ("drop", "mill", 2), ("drop", "mill", 3), ("drop", "mill", 2))

    def test_root_and_over(self):
        for name in ("mill", "farm"):
            self.wrong(0, "root", ("cut", name))
        self.wrong(0, "over", ("cut", "rest"))
        self.wrong(2, "root", ("cut", "more"), ("cut", "rest"), ("cut", "mill"))

    def test_lives(self):
        rows = [(name, 9, None) for name in "abcdef"]
        deed = Deed(Gift("house", Named("b"), SALE))
        self.assertEqual(changed(deed, Lives(Customs(), rows[:4]), [("within", "house", 3)])["house"].date.depth, 4)
        for many in (5, 6):
            self.wrong(0, "lives", ("within", "house", 3), deed=deed, lives=Lives(Customs(), rows[:many]))
            self.assertEqual(changed(deed, Lives(Customs(), rows[:many]), ()), deed)
        deep = Deed(Gift("house", Named("b"), SALE + 1 + 1 + 1 + 1 + 1))
        self.wrong(0, "lives", ("within", "house", 3), deed=deep, lives=Lives(Customs(), rows))

    def test_depth(self):
        five = SURVIVOR + 1 + 1 + 1 + 1
        for date, what in ((five, None), (five + 1, "depth")):
            deed = Deed(Gift("house", Named("b"), date))
            for change in (("within", "house", 3), ("mate", "house", "a", "b")):
                if what is None:
                    self.assertEqual(changed(deed, L, [change])["house"].date.depth, 6)
                else:
                    self.wrong(0, "depth", change, deed=deed)
            rule = Deed(Gift("house", Named("b"), Year(3), By(SALE, date)))
            if what is None:
                self.assertEqual(changed(rule, L, [("mate", "house", "a", "b")])["house"].conditions[0].other.depth, 6)
            else:
                self.wrong(0, "depth", ("mate", "house", "a", "b"), deed=rule)
        flat = Deed(Gift("house", Named("b"), Year(3)))
        self.wrong(3, "depth", *[("within", "house", 3)] * 4, deed=flat)

    def test_lives_of_the_deed_come_first(self):
        deed = Deed(Gift("x", Mate("a"), Death("q"), By(First(Children("r"), 3), Year(3))), Gift("y", Named("p"), Death("r"), over="x"))
        self.refused(NoLife, {"name": "q"}, changed, deed, L, [3])
        deed = Deed(Gift("x", Mate("a"), Year(3)), Gift("y", Named("p"), Death("r"), over="x"))
        self.refused(NoLife, {"name": "p"}, changed, deed, L, [3])


if __name__ == "__main__":
    unittest.main()
