"""Which changes make a deed good, and why no fewer of them do [10.3] to [10.10]."""

import itertools
import unittest

from lastlife.alike import differing
from lastlife.changes import changed
from lastlife.conditions import By
from lastlife.customs import Customs
from lastlife.dates import Close, Death, Happening, Survivor, Year
from lastlife.deed import Deed
from lastlife.errors import BadChange, BadPool, NoLife
from lastlife.gifts import Gift
from lastlife.kin import Children
from lastlife.lives import Lives
from lastlife.mends import Mend, all_lots, bad_gifts, is_good_deed, least_mends, mend_fault, spoiling
from lastlife.reach import is_good, number
from lastlife.record import Record
from lastlife.takers import FirstReaching, Living, Mate, Named, Reaching, Told, Whole
from lastlife.waiting import settled_since
from lastlife.years import LATE
from tests.helpers import ODD, Always, FamilyTest
from tests.samples import Dice

L = Lives(Customs(12, limit=21), [("a", 50, None), ("b", 30, "a")])
K = Children("a")
MILL = Gift("mill", Reaching(K, 25), Close(K))
D = Deed(MILL)
POOL = (("age", "mill", 21), ("told", "mill"), ("drop", "mill", 0))
E = Deed(Gift("farm", Reaching(K, 20), Year(0)), Gift("rest", Reaching(K, 30), Close(K), over="farm"))
SALE = Happening("sale")


def lots_of(many):
    """All lots of so many changes, in their order."""
    return [lot for size in range(many + 1) for lot in itertools.combinations(range(many), size)]


def by_hand(deed, lives, pool):
    """What all_lots tells, with one question for each gift of each lot."""
    rows = []
    for lot in lots_of(len(pool)):
        try:
            other = changed(deed, lives, [pool[index] for index in lot])
        except BadChange as error:
            rows.append((lot, "none", (lot[error.index], error.what)))
            continue
        bad = tuple(name for name in other.names if not is_good(other, name, Record(lives)))
        rows.append((lot, "bad" if bad else "good", bad))
    return tuple(rows)


class MendTest(FamilyTest):
    def holds(self, deed, lives, pool):
        """Lots, mends and spoiling changes are those that are found one by one."""
        rows = self.quick(all_lots, deed, lives, pool)
        self.same(rows, by_hand(deed, lives, pool))
        words = {lot: word for lot, word, _ in rows}
        good = [lot for lot in words if words[lot] == "good"]
        spoilt = [(lot, index) for lot in good for index in range(len(pool))
                  if index not in lot and words[tuple(sorted((*lot, index)))] != "good"]
        self.same(self.quick(spoiling, deed, lives, pool), tuple(spoilt))
        mends = self.quick(least_mends, deed, lives, pool)
        self.assertIs(mends.__class__, tuple)
        least = [lot for lot in good if not any(set(other) < set(lot) for other in good)]
        self.assertEqual([mend.lot for mend in mends], least)
        for mend in mends:
            self.assertIs(mend.__class__, Mend)
            self.assertEqual(mend.deed, changed(deed, lives, [pool[index] for index in mend.lot]))
            self.same(tuple(row[0] for row in mend.breaches), tuple(lot for lot in words if set(lot) < set(mend.lot)))
            for row in mend.breaches:
                self.breach(deed, lives, pool, row, words)
            self.assertIsNone(self.quick(mend_fault, deed, lives, pool, mend))
        return mends

    def breach(self, deed, lives, pool, row, words):
        """The row shows that its lot is not good."""
        self.assertIs(row.__class__, tuple)
        part, name, record = row
        if words[part] == "none":
            self.same((name, record), (None, None))
            return
        other = changed(deed, lives, [pool[index] for index in part])
        self.assertEqual(name, [one for one in other.names if not is_good(other, one, Record(lives))][0])
        self.assertEqual(record.lives, lives)
        self.assertLess(record.last_death(lives.names), LATE)
        self.assertGreaterEqual(record.end - record.last_death(lives.names), lives.customs.limit + 1)
        self.assertNotEqual(set(other.takers(name, record)), set(other.takers(name, record.shorter())))


class TestGoodDeeds(FamilyTest):
    def test_bad_gifts(self):
        for deed, wanted in ((D, ("mill",)), (E, ()), (Deed(Gift("x", Named("a"), SALE)), ("x",)),
                             (Deed(Gift("x", Named("a"), SALE, part=(1, 2)), Gift("y", Whole(K), Close(K), part=(1, 4)),
                                   Gift("z", Reaching(K, 22), Close(K), part=(1, 4))), ("x", "z"))):
            self.same(self.quick(bad_gifts, deed, L), wanted)
            self.same(is_good_deed(deed, L), wanted == ())

    def test_the_limit(self):
        for limit, wanted in ((24, ("mill",)), (25, ())):
            self.same(bad_gifts(D, Lives(Customs(12, limit=limit), L.rows)), wanted)

    def test_all_lives_measure(self):
        deed = Deed(Gift("x", Living(K), Death("b") + 5))
        self.same(bad_gifts(deed, Lives(Customs(12, limit=5), L.rows)), ())


class TestLots(MendTest):
    def test_the_example(self):
        self.same(tuple(mend.lot for mend in self.holds(D, L, list(POOL))), ((0,), (1,)))
        wanted = (((), "bad", ("mill",)), ((0,), "good", ()), ((1,), "good", ()), ((2,), "none", (2, "condition")))
        self.same(all_lots(D, L, POOL)[:4], wanted)
        self.same(spoiling(E, L, [("age", "farm", 40)]), (((), 0),))
        self.holds(E, L, [("age", "farm", 40)])

    def test_a_deed_that_is_good_as_it_is(self):
        found = self.holds(E, L, [("age", "farm", 40), ("cut", "rest")])
        self.assertEqual([(mend.lot, mend.deed, mend.breaches) for mend in found], [((), E, ())])

    def test_no_good_lot(self):
        self.assertEqual(self.holds(D, L, [("age", "mill", 22), ("drop", "mill", 0)]), ())

    def test_one_change_and_four(self):
        self.holds(D, L, POOL[:1])
        two = Deed(Gift("mill", Reaching(K, 25), Close(K), part=(1, 2)), Gift("farm", Named("a"), SALE, By(SALE, Survivor("a")), part=(1, 2)))
        pool = (("within", "farm", 21), ("age", "mill", 21), ("drop", "farm", 0), ("mate", "farm", "a", "b"))
        found = self.holds(two, L, pool)
        # As long as the mate lives the sale can come, so the condition has to be dropped, too.
        self.assertEqual([mend.lot for mend in found], [(1, 3), (0, 1, 2)])
        self.assertEqual(len(all_lots(two, L, pool)), 16)

    def test_lots_that_cannot_be_made_within_lots_that_can(self):
        """More can be left out once there is nothing over it."""
        chain = Deed(Gift("mill", Told(K), SALE & Year(3), By(Year(5), SALE)), Gift("rest", Reaching(K, 25), Close(K), over="mill"),
                     Gift("more", Named("a"), SALE, over="rest"))
        pool = [("cut", "more"), ("cut", "rest"), ("within", "mill", 3)]
        found = self.holds(chain, L, pool)
        self.assertEqual([mend.lot for mend in found], [(0, 1, 2)])
        self.assertIn(((1,), None, None), found[0].breaches)
        self.assertEqual(dict((lot, word) for lot, word, _ in all_lots(chain, L, pool))[(1,)], "none")

    def test_the_first_change_that_cannot_be_made(self):
        pool = [("told", "mill"), ("age", "mill", 3), ("age", "farm", 3), ("told", "mill")]
        rows = dict((lot, (word, told)) for lot, word, told in all_lots(D, L, pool))
        self.same(rows[(0, 1, 2)], ("none", (1, "taker")))
        self.same(rows[(1, 2, 3)], ("none", (2, "gift")))
        self.same(rows[(0, 3)], ("good", ()))
        self.holds(D, L, pool)

    def test_a_limit_at_its_bound(self):
        lives = Lives(Customs(12, limit=10 ** 6), L.rows)
        deed = Deed(Gift("farm", Named("a"), SALE))
        found = self.holds(deed, lives, [("within", "farm", 10 ** 6), ("told", "farm")])
        self.assertEqual([mend.lot for mend in found], [(0,)])

    def test_deeds_by_chance(self):
        words = {}
        for seed in range(9501, 9541):
            dice = Dice(seed)
            lives = dice.lives(3)
            deed = dice.deed(lives)
            pool = [self.change(dice, deed, lives.names) for _ in range(dice.dice.randint(1, 4))]
            self.holds(deed, lives, pool)
            for _, word, _ in all_lots(deed, lives, pool):
                words[word] = words.get(word, 0) + 1
        self.assertGreater(min(words["good"], words["bad"], words["none"]), 20)

    def change(self, dice, deed, names):
        pick = dice.dice.choice
        gift = pick(deed.gifts)
        word = pick(("age", "within", "within", "told", "mate", "drop", "drop", "cut"))
        more = {"age": [pick((0, 1, 3))], "within": [pick((0, 2, 5))], "told": [], "cut": [],
                "mate": [pick(names), pick(names)], "drop": [pick((0, 1))]}
        return (word, gift.name, *more[word])


class TestMendFault(FamilyTest):
    RECORD = Record(L, (("died", 1, "a"), ("died", 1, "b"), ("born", 2, "a", "k"), ("died", 23, "k")))
    MADE = changed(D, L, POOL[:1])

    def judged(self, lot, deed, breaches, pool=POOL, of=D):
        return mend_fault(of, L, pool, Mend(lot, deed, breaches))

    def test_right_ones(self):
        self.assertIsNone(self.judged((0,), self.MADE, (((), "mill", self.RECORD),)))
        later = Record(L, (*self.RECORD.rows[:3], ("died", 26, "k")))
        self.assertIsNone(self.judged((0,), self.MADE, (((), "mill", later),)))
        self.assertIsNone(self.judged((), E, (), of=E))

    def test_any_gift_that_is_not_good(self):
        farm = Gift("farm", Named("a"), SALE, part=(1, 2))
        deed = Deed(Gift("mill", Reaching(K, 25), Close(K), part=(1, 2)), farm)
        pool = (("told", "mill"), ("within", "farm", 3))
        made = changed(deed, L, pool)
        sale = Record(L, (("died", 1, "a"), ("died", 1, "b"), ("happened", 23, "sale")))
        right = [((), "mill", self.RECORD), ((0,), "farm", sale), ((1,), "mill", self.RECORD)]
        for name, record in (("mill", self.RECORD), ("farm", sale)):
            self.assertIsNone(self.judged((0, 1), made, (((), name, record), *right[1:]), pool, deed))
        self.assertEqual(self.judged((0, 1), made, (right[0], ((0,), "mill", self.RECORD), right[2]), pool, deed), "breach")
        self.assertEqual(self.judged((0, 1), made, (((), "farm", self.RECORD), *right[1:]), pool, deed), "breach")

    def test_words(self):
        right = (((), "mill", self.RECORD),)
        for lot in ((3,), (-1,), (0, 0), (1, 0), [0], (True,), "0", None, (0, "1"), 0):
            self.assertEqual(self.judged(lot, self.MADE, right), "lot")
        self.assertEqual(self.judged((2,), D, right), "made")
        self.assertEqual(self.judged((0, 2), self.MADE, right), "made")
        for deed in (D, changed(D, L, [("age", "mill", 20)]), None, L):
            self.assertEqual(self.judged((0,), deed, right), "deed")
        self.assertEqual(self.judged((), D, ()), "good")
        self.assertEqual(self.judged((), D, right), "good")
        for breaches in ((), (*right, *right), (((0,), "mill", self.RECORD),), (((1,), "mill", self.RECORD),)):
            self.assertEqual(self.judged((0,), self.MADE, breaches), "parts")

    def test_breaches(self):
        early = Record(L, (*self.RECORD.rows[:3], ("died", 22, "k")))
        alive = Record(L, (("died", 1, "b"), ("born", 2, "a", "k"), ("died", 23, "k")))
        reached = Record(L, (*self.RECORD.rows[:3], ("died", 27, "k")))
        other_lives = Record(Lives(Customs(12, limit=20), L.rows), self.RECORD.rows)
        for name, record in (("farm", self.RECORD), (None, self.RECORD), ("mill", None), (None, None), ("mill", early),
                             ("mill", alive), ("mill", reached), ("mill", other_lives), ("mill", Record(L)), ("mill", L)):
            self.assertEqual(self.judged((0,), self.MADE, (((), name, record),)), "breach")

    def test_a_breach_of_one_year_above_the_limit(self):
        lives = Lives(Customs(12, limit=24), L.rows)
        mends = least_mends(D, lives, POOL)
        record = mends[0].breaches[0][2]
        self.assertEqual(record.end - record.last_death(lives.names), 25)

    def test_names_and_records_of_lots_that_cannot_be_made(self):
        bad = Deed(Gift("mill", Told(K), Year(-3), By(SALE, Year(0))), Gift("rest", Named("a"), SALE, over="mill"),
                   Gift("more", Named("b"), SALE, over="rest"))
        pool = (("cut", "more"), ("cut", "rest"))
        self.assertEqual([mend.lot for mend in least_mends(bad, L, pool)], [(0, 1)])
        mend = least_mends(bad, L, pool)[0]
        rows = mend.breaches
        self.assertEqual(rows[2], ((1,), None, None))
        for name, record in (("rest", None), (None, rows[0][2]), ("rest", rows[0][2])):
            self.assertEqual(self.judged((0, 1), mend.deed, (*rows[:2], ((1,), name, record)), pool, bad), "breach")
        self.assertIsNone(self.judged((0, 1), mend.deed, rows, pool, bad))

    def test_a_lot_that_contains_a_smaller_good_lot(self):
        pool = (POOL[0], ("age", "mill", 20))
        made = changed(D, L, pool)
        rows = (((), "mill", self.RECORD), ((0,), "mill", self.RECORD), ((1,), "mill", self.RECORD))
        self.assertEqual(self.judged((0, 1), made, rows, pool), "breach")
        self.assertEqual(self.judged((0, 1), made, (rows[0], ((0,), None, None), ((1,), None, None)), pool), "breach")

    def test_parts_that_cannot_be_made(self):
        chain = Deed(Gift("mill", Told(K), Year(3)), Gift("rest", Named("a"), SALE, over="mill"), Gift("more", Named("b"), SALE, over="rest"))
        pool = (("cut", "more"), ("cut", "rest"))
        self.assertEqual(self.judged((), chain, (), pool, chain), None)
        bad = Deed(Gift("mill", Named("a"), Year(3), By(SALE, SALE + 1)), *chain.gifts[1:])
        pool = (("cut", "more"), ("cut", "rest"), ("drop", "mill", 0))
        found = least_mends(bad, L, pool)
        self.assertEqual([mend.lot for mend in found], [(2,)])
        self.assertEqual(self.judged((0, 1), changed(bad, L, pool[:2]), (), pool, bad), "good")

    def test_results_keep_their_arguments(self):
        kept = Mend([1], "x", None)
        self.assertEqual((kept.lot, kept.deed, kept.breaches), ([1], "x", None))


class TestErrors(FamilyTest):
    def test_lives(self):
        deed = Deed(Gift("x", Mate("a"), Death("q")), Gift("y", Named("p"), Year(3), over="x"))
        for call in (bad_gifts, is_good_deed):
            self.refused(NoLife, {"name": "q"}, call, deed, L)
        for call in (all_lots, least_mends, spoiling, lambda *told: mend_fault(*told, None)):
            self.refused(NoLife, {"name": "q"}, call, deed, L, 3)

    def test_pools(self):
        good = POOL[0]
        for call in (all_lots, least_mends, spoiling, lambda *told: mend_fault(*told, None)):
            for thing in (*ODD[:7], "pool", 1, b"a", {}, [], (), [good] * 5, ["x"] * 5, Always()):
                self.refused(BadPool, {"what": "pool", "index": None}, call, D, L, thing)
            for thing in (*ODD, ("age", "mill"), ("age", "mill", -1), ("none", "mill"), ("drop", "mill", 4), ("told", "M")):
                self.refused(BadPool, {"what": "change", "index": 1}, call, D, L, [good, thing, 3])


class TestWhatFollows(FamilyTest):
    def samples(self):
        for seed in range(9601, 9641):
            dice = Dice(seed)
            lives = dice.lives(3)
            yield dice, lives, dice.deed(lives)

    def test_a_greater_limit(self):
        for dice, lives, deed in self.samples():
            old = lives.customs
            custom = Customs(old.parent_age, years_after=old.years_after, wed_age=old.wed_age, limit=old.limit + 2)
            more = Lives(custom, lives.rows)
            pool = [("within", name, 1) for name in deed.names] + [("drop", deed.names[0], 0)]
            mends, others = least_mends(deed, lives, pool), least_mends(deed, more, pool)
            for mend in mends:
                self.assertTrue(any(set(other.lot) <= set(mend.lot) for other in others))

    def test_within(self):
        for dice, lives, deed in self.samples():
            gift = deed.gifts[0]
            free = Deed(Gift("f", gift.taker, gift.date))
            for years in (0, 3):
                found = number(changed(free, lives, [("within", "f", years)]), "f", Record(lives))
                self.assertIsNotNone(found)
                self.assertLessEqual(found, years + (gift.taker.age if isinstance(gift.taker, Reaching) else 0))

    def test_a_cut_changes_no_other_gift(self):
        for dice, lives, deed in self.samples():
            if len(deed) > 1:
                other = changed(deed, lives, [("cut", deed.names[-1])])
                record = dice.record(lives, 8)
                for name in other.names:
                    self.assertEqual(other.takers(name, record), deed.takers(name, record))
                    self.assertEqual(number(other, name, record), number(deed, name, record))

    def test_lots_that_deal_alike(self):
        met = 0
        for dice, lives, deed in self.samples():
            pool = [("within", deed.names[-1], 5), ("drop", deed.names[-1], 0), ("drop", deed.names[0], 1)]
            rows = [(changed(deed, lives, [pool[index] for index in lot]), word)
                    for lot, word, _ in all_lots(deed, lives, pool) if word != "none"]
            for (one, word), (other, other_word) in itertools.combinations(rows, 2):
                if not differing(one, other, lives):
                    met += 1
                    self.assertEqual(word, other_word)
        self.assertGreater(met, 10)

    def test_no_gift_of_a_mended_deed_is_settled_behind_the_limit_alone(self):
        met = 0
        for dice, lives, deed in self.samples():
            for mend in least_mends(deed, lives, [("within", name, 1) for name in deed.names]):
                record = dice.record(lives, 6)
                for life in lives.names:
                    if record.is_alive(life):
                        record = record.after(("died", record.end + 1, life))
                limit = record.last_death(lives.names) + lives.customs.limit
                for _ in range(4):
                    record = dice.longer(record)
                for name in mend.deed.names:
                    met += 1
                    since = settled_since(mend.deed, name, record, year=max(limit, record.end))
                    self.assertTrue(since is not None and since <= limit)
        self.assertGreater(met, 20)

    def test_first_reaching(self):
        below = Children("b")
        deed = Deed(Gift("x", FirstReaching(below, 25), Close(below) + 25))
        self.same(bad_gifts(deed, L), ("x",))
        self.same(tuple(mend.lot for mend in least_mends(deed, L, [("age", "x", 21)])), ((0,),))
        self.same(bad_gifts(Deed(Gift("x", Whole(K), Close(K))), L), ())


if __name__ == "__main__":
    unittest.main()
