"""Deeds [3.7] [3.8]."""

import unittest

from lastlife.conditions import By, Unless
from lastlife.dates import Death, Happening, Year
from lastlife.deed import Deed
from lastlife.errors import BadDeed, BadGift, NoGift, NoLife
from lastlife.gifts import Gift
from lastlife.kin import Children, Grandchildren
from lastlife.takers import FirstReaching, Living, Mate, Named, Reaching, Told, Whole
from tests.helpers import ODD, Always, FamilyTest, family, small_records

KIN = Children("a")


def gift(name, over=None, part=(1, 1), taker=None, date=None, rules=()):
    return Gift(name, taker or Named("a"), date or Year(5), *rules, over=over, part=part)


def roots(many):
    return [gift("abcdefghij"[at], part=(1, 10)) for at in range(many)]


class TestDeed(FamilyTest):
    def bad(self, index, what, *gifts):
        self.refused(BadDeed, {"index": index, "what": what}, Deed, *gifts)

    def test_one_to_eight_gifts(self):
        for many in range(1, 9):
            self.assertEqual(len(Deed(*roots(many))), many)
        self.bad(0, "empty")
        self.bad(8, "many", *roots(9))
        self.bad(8, "many", *[None] * 9)

    def test_gift(self):
        for thing in (*ODD, 1, "a", Always(), Year(5), Gift):
            self.bad(0, "gift", thing)
            self.bad(1, "gift", gift("a", part=(1, 2)), thing)

    def test_double(self):
        self.bad(1, "double", gift("a", part=(1, 2)), gift("a", part=(1, 2)))
        self.bad(2, "double", gift("a"), gift("b", over="a"), gift("b", over="a"))
        self.bad(1, "double", gift("a"), gift("a"))

    def test_over(self):
        self.bad(0, "over", gift("a", over="a"))
        self.bad(0, "over", gift("a", over="b"), gift("b"))
        self.bad(1, "over", gift("a"), gift("b", over="c"), gift("c", over="a"))

    def test_taken(self):
        self.bad(2, "taken", gift("a"), gift("b", over="a"), gift("c", over="a"))
        self.bad(3, "taken", gift("a"), gift("b", over="a"), gift("c", over="b"), gift("d", over="b"))

    def test_deep(self):
        three = [gift("a"), gift("b", over="a"), gift("c", over="b")]
        self.assertEqual(len(Deed(*three)), 3)
        self.bad(3, "deep", *three, gift("d", over="c"))
        other = [gift("p", part=(1, 2)), gift("a", part=(1, 2)), gift("b", over="a"), gift("c", over="b")]
        self.bad(4, "deep", *other, gift("d", over="c"))

    def test_part(self):
        self.assertEqual(len(Deed(gift("a", part=(1, 2)), gift("b", part=(1, 3)), gift("c", part=(1, 6)))), 3)
        self.bad(2, "part", gift("a", part=(1, 2)), gift("b", part=(1, 3)), gift("c", part=(166667, 10 ** 6)))
        self.bad(1, "part", gift("a"), gift("b", part=(1, 10 ** 6)))
        self.assertEqual(len(Deed(gift("a"), gift("b", over="a"), gift("c", over="b"))), 3)
        self.assertEqual(len(Deed(gift("a", part=(1, 2)), gift("b", over="a"), gift("c", part=(1, 2)))), 3)
        self.bad(2, "part", gift("a"), gift("b", over="a"), gift("c"))

    def test_gift_by_gift_and_the_order_of_the_words(self):
        self.bad(0, "gift", None, gift("a", over="a"))
        self.bad(1, "double", gift("a"), gift("a", over="c"), None)
        self.bad(2, "double", gift("a"), gift("b", over="a"), gift("a", over="a"))
        self.bad(1, "part", gift("a"), gift("b"), None)
        self.bad(3, "taken", gift("a"), gift("b", over="a"), gift("c", over="b"), gift("d", over="a"))

    def test_the_gift_of_a_name(self):
        deed = Deed(*roots(3))
        self.assertEqual(deed["b"], roots(3)[1])
        self.same(deed.names, ("a", "b", "c"))
        self.assertEqual(list(deed), roots(3))
        self.assertEqual(deed.gifts, tuple(roots(3)))
        self.assertIsInstance(deed.gifts, tuple)

    def test_no_gift(self):
        deed = Deed(*roots(3))
        record = family()
        for thing in (*ODD, "d", 0, 1, Always(), gift("a")):
            self.refused(NoGift, {"name": thing}, lambda name: deed[name], thing)
            self.refused(NoGift, {"name": thing}, deed.chain, thing)
            self.refused(NoGift, {"name": thing}, deed.chain_lives, thing)
            self.refused(NoGift, {"name": thing}, deed.takers, thing, record)

    def test_chains(self):
        one, two, three = gift("a"), gift("b", over="a"), gift("c", over="b")
        deed = Deed(one, two, three)
        self.assertEqual(deed.chain("a"), (one,))
        self.assertEqual(deed.chain("b"), (one, two))
        self.assertEqual(deed.chain("c"), (one, two, three))
        self.assertIsInstance(deed.chain("c"), tuple)

    def test_the_lives_of_a_chain(self):
        rule = By(Death("e"), Death("f") | Death("b"))
        deed = Deed(gift("a", taker=Mate("c"), date=Death("b"), rules=(rule,), part=(1, 2)), gift("x", part=(1, 2)),
                    gift("b", over="a", taker=Living(Grandchildren("d")), date=Death("c")))
        self.same(deed.chain_lives("a"), ("c", "b", "e", "f"))
        self.same(deed.chain_lives("b"), ("c", "b", "e", "f", "d"))
        self.same(deed.chain_lives("x"), ("a",))

    def test_with_gift(self):
        deed = Deed(gift("a"), gift("b", over="a"))
        new = gift("b", over="a", date=Year(9))
        self.equals_only(deed.with_gift(new), Deed(gift("a"), new), deed)
        self.equals_only(deed.with_gift(gift("a", part=(1, 2))), Deed(gift("a", part=(1, 2)), gift("b", over="a")))
        self.same(deed.names, ("a", "b"))
        for thing in (*ODD, "a", 1, Gift):
            self.refused(BadGift, {"what": "gift"}, deed.with_gift, thing)
        self.refused(NoGift, {"name": "c"}, deed.with_gift, gift("c"))
        self.refused(BadDeed, {"index": 0, "what": "over"}, deed.with_gift, gift("a", over="b"))
        self.refused(BadDeed, {"index": 1, "what": "part"}, deed.with_gift, gift("b"))

    def test_equal_if_the_gifts_are(self):
        one, two = gift("a", part=(1, 2)), gift("b", part=(1, 2))
        self.equals_only(Deed(one, two), Deed(gift("a", part=(2, 4)), gift("b", part=(1, 2))), Deed(two, one), Deed(one),
                         one)
        self.has_no_order(Deed(one), Deed(one))
        self.stands_in(Deed, "__init__", "names", "__getitem__", "chain", "chain_lives", "takers", "with_gift",
                       "__eq__", "__len__", "__iter__")


class TestTakersOfADeed(FamilyTest):
    def test_the_example(self):
        deed = Deed(Gift("estate", Living(KIN), Death("a")), Gift("second", Mate("a"), Death("a"), over="estate"))
        record = family(("born", 2, "a", "d"), ("died", 5, "a"), ("died", 9, "d"))
        self.same((deed.takers("estate", record), deed.takers("second", record)), (("b", "d"), ()))
        record = family(("wed", 1, "a", "m"), ("died", 2, "b"), ("died", 5, "a"))
        self.same((deed.takers("estate", record), deed.takers("second", record)), ((), ("m",)))

    def test_a_date_that_never_comes_and_conditions(self):
        record = family(("happened", 4, "war"))
        for rules, date, wanted in (
                ((), Happening("war"), ("a",)), ((), Happening("peace"), ()), ((By(Year(1), Year(2)),), None, ("a",)),
                ((By(Year(2), Year(1)),), None, ()), ((By(Year(1), Year(2)), Unless(Year(1), Year(2))), None, ()),
                ((Unless(Happening("peace"), Year(2)),), None, ("a",))):
            self.same(Deed(gift("a", date=date, rules=rules)).takers("a", record), wanted)

    def test_only_a_gift_ahead_with_takers_keeps_the_others_from_taking(self):
        def deed(first, second):
            return Deed(gift("x", date=first), gift("y", over="x", date=second), gift("z", over="y"))
        record, never = family(), Happening("war")
        for first, second, wanted in ((Year(1), Year(1), ("x",)), (never, Year(1), ("y",)), (never, never, ("z",)),
                                      (Year(1), never, ("x",))):
            found = [name for name in "xyz" if deed(first, second).takers(name, record)]
            self.assertEqual(tuple(found), wanted)

    def test_at_most_one_gift_of_a_chain_has_takers(self):
        deed = Deed(Gift("x", Living(KIN), Death("a"), By(Happening("war"), Death("b"))),
                    Gift("y", FirstReaching(Grandchildren("a"), 3), Death("b") + 3, over="x"),
                    Gift("z", Mate("a"), Death("a"), over="y"))
        for record in small_records(4):
            found = [name for name in "xyz" if deed.takers(name, record)]
            self.assertLessEqual(len(found), 1)
            for name in "xyz":
                self.assertIsInstance(deed.takers(name, record), tuple)

    def test_the_taker_is_asked_at_the_year_of_the_date(self):
        record = family(("born", 2, "a", "d"), ("died", 5, "a"), ("died", 9, "d"))
        for taker, date, wanted in (
                (Whole(KIN), Year(1), ("b",)), (Whole(KIN), Year(2), ("b", "d")), (Living(KIN), Year(10), ("b",)),
                (Reaching(KIN, 8), Year(2), ("b",)), (Told(KIN), Year(2), ("b",)),
                (FirstReaching(KIN, 18), Year(8), ("b",))):
            self.same(Deed(gift("x", taker=taker, date=date)).takers("x", record), wanted)

    def test_no_life_comes_behind_no_gift_and_in_the_order_of_the_chain(self):
        deed = Deed(gift("x", taker=Mate("p"), date=Death("q"), rules=(By(Death("r"), Death("s")),)),
                    gift("y", over="x", taker=Named("t"), date=Death("a")), gift("z", over="y", taker=Named("u")))
        self.refused(NoGift, {"name": "w"}, deed.takers, "w", family())
        for name in "xyz":
            self.refused(NoLife, {"name": "p"}, deed.takers, name, family())
        deed = Deed(gift("x"), gift("y", over="x", date=Death("q"), taker=Named("a")))
        self.same(deed.takers("x", family()), ("a",))
        self.refused(NoLife, {"name": "q"}, deed.takers, "y", family())
        deed = Deed(gift("x"), Gift("y", Named("a"), Year(5), over="x", until=Death("q")))
        self.same(deed.takers("y", family()), ())


if __name__ == "__main__":
    unittest.main()
