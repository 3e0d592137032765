"""The state of a gift while a record grows [8.1] to [8.6]."""

import unittest

from lastlife.conditions import By
from lastlife.customs import Customs
from lastlife.dates import Close, Death, Happening, Survivor, Year
from lastlife.deed import Deed
from lastlife.errors import BadMeasuring, BadYear, NoGift, NoLife
from lastlife.gifts import Gift
from lastlife.kin import Children
from lastlife.lives import Lives
from lastlife.opening import is_open
from lastlife.reach import is_good, number, reach
from lastlife.record import Record
from lastlife.takers import Living, Mate, Named, Reaching, Told, Whole
from lastlife.waiting import Fall, falling, falling_fault, settled_since, state_at, state_changes
from lastlife.years import LATE
from tests.helpers import NOT_WHOLE, ODD, Always, FamilyTest
from tests.samples import Dice

KIN = Children("a")
LIVES = Lives(Customs(16, limit=21), (("a", 40, None),))
EMPTY = Record(LIVES)
HOUSE = Deed(Gift("house", Reaching(KIN, 25), Death("a")))
ONE = Record(LIVES, (("born", 3, "a", "b"), ("died", 10, "a")))
TWO = Record(LIVES, (("born", 3, "a", "b"), ("born", 9, "a", "c"), ("died", 10, "a")))
WAR = Happening("war")


def deed_of(taker, date, *rules):
    return Deed(Gift("house", taker, date, *rules))


class WaitingTest(FamilyTest):
    def state(self, wanted, record, year=None, deed=HOUSE, **more):
        """The state is the wanted one, and falling shows a record exactly if the gift can still fall."""
        self.same(self.quick(state_at, deed, "house", record, year=year, **more), wanted)
        found = self.quick(falling, deed, "house", record, year=year, **more)
        self.assertEqual(found is None, wanted in ("settled", "sure"))
        self.assertIsNone(falling_fault(deed, "house", record, found, year=year, **more))
        if found is not None:
            self.assertIs(found.__class__, Fall)
            self.falls(deed, "house", found, record, record.end if year is None else year, more.get("measuring"))
            self.assertEqual(falling_fault(deed, "house", record, None, year=year, **more), "none")

    def falls(self, deed, name, found, record, year, measuring):
        one, other = found.record, found.other
        self.assertEqual(one.until(year), record.until(year))
        death = one.last_death(measuring or record.lives.names)
        self.assertLess(death, LATE)
        deadline = death + record.customs.limit
        self.assertEqual(one.until(deadline), other.until(deadline))
        self.assertNotEqual(set(deed.takers(name, one)), set(deed.takers(name, other)))


class TestState(WaitingTest):
    def test_the_example(self):
        self.state("waiting", EMPTY)
        self.state("waiting", ONE, 3)
        self.state("sure", ONE)
        self.state("waiting", TWO)
        self.state("fallen", TWO, 31)
        self.state("settled", ONE, 31)

    def test_the_deadline(self):
        """The deadline is the year 31; c can reach the age of 25 in 34."""
        for year, wanted in ((10, "waiting"), (30, "waiting"), (31, "fallen"), (32, "fallen"), (10 ** 7, "fallen")):
            self.state(wanted, TWO, year)

    def test_a_gift_that_settles_in_the_year_of_its_deadline_and_one_year_behind_it(self):
        """A child of the year 7 reaches the age of 25 in 32, so that its death in 31 is the last one that counts."""
        for year, end in ((7, "settled"), (8, "fallen")):
            record = Record(LIVES, (("born", year, "a", "b"), ("died", 10, "a")))
            self.assertEqual(settled_since(HOUSE, "house", record, year=99), year + 24)
            self.state(end, record, 31)
            self.state(end, record, 32)
            self.state(end, record, 33)
            self.state("sure" if year == 7 else "waiting", record, 30)
        record = Record(LIVES, (("born", 8, "a", "b"), ("died", 10, "a"), ("died", 31, "b")))
        self.state("settled", record, 31)
        self.state("waiting", record, 30)

    def test_settled_at_once_and_never(self):
        self.state("settled", EMPTY, deed=deed_of(Named("a"), Year(3)))
        self.state("settled", EMPTY, 5, deed=deed_of(Told(KIN), WAR))
        self.state("waiting", EMPTY, deed=deed_of(Named("a"), WAR))
        self.state("waiting", ONE, deed=deed_of(Named("a"), WAR))
        self.state("fallen", ONE, 31, deed=deed_of(Named("a"), WAR))
        self.state("sure", EMPTY, deed=deed_of(Living(KIN), Death("a")))
        self.state("settled", ONE, deed=deed_of(Living(KIN), Death("a")))
        self.state("sure", EMPTY, deed=deed_of(Reaching(KIN, 21), Close(KIN)))
        self.state("waiting", EMPTY, deed=deed_of(Reaching(KIN, 22), Close(KIN)))

    def test_a_deadline_above_the_years_of_calls(self):
        lives = Lives(Customs(16, limit=10 ** 6), (("a", 40, None),))
        record = Record(lives, (("died", 10 ** 7 - 5, "a"),))
        deed = deed_of(Named("a"), WAR)
        for year in (None, 10 ** 7):
            self.state("waiting", record, year, deed)
        self.state("sure", record, 10 ** 7, deed_of(Named("a"), Year(3), By(WAR, Death("a") + 10 ** 6)))

    def test_a_limit_of_zero(self):
        lives = Lives(Customs(16, limit=0), (("a", 40, None),))
        record = Record(lives, (("died", 5, "a"),))
        for deed, wanted in ((deed_of(Whole(KIN), Death("a")), "settled"), (deed_of(Whole(KIN), Close(KIN)), "fallen"),
                             (deed_of(Told(KIN), WAR), "settled")):
            self.state(wanted, record, deed=deed)
            self.state(wanted, record, 9, deed)

    def test_measuring_lives(self):
        lives = Lives(Customs(16, limit=21), (("a", 40, None), ("z", 30, None)))
        record = Record(lives, TWO.rows)
        # If z dies in the year 11, c can still die too young 22 years behind it.
        for year, wanted in ((10, "waiting"), (11, "sure"), (32, "sure"), (33, "settled")):
            self.state(wanted, record, year)
            self.state(wanted, record, year, measuring=("z",))
        self.state("waiting", record, 30, measuring=("a",))
        self.state("fallen", record, 33, measuring=["a"])

    def test_other_takers_of_the_known_record_itself(self):
        """The record has a row behind its deadline that brings other takers than its rows up to it."""
        lives = Lives(Customs(16, limit=3), (("a", 40, None),))
        record = Record(lives, (("died", 5, "a"), ("happened", 20, "war")))
        self.state("fallen", record, deed=deed_of(Named("a"), WAR))
        self.state("fallen", record, 30, deed_of(Named("a"), WAR))
        self.state("waiting", record, 7, deed_of(Named("a"), WAR))


class TestFallingFault(FamilyTest):
    def judged(self, one, other, record=TWO, **more):
        return falling_fault(HOUSE, "house", record, Fall(one, other), **more)

    def test_right_ones(self):
        long = TWO.after(("died", 33, "c"))
        for one, other in ((TWO, long), (long, TWO)):
            self.assertIsNone(self.judged(one, other))
            self.assertIsNone(self.judged(one, other, year=31))
        self.assertIsNone(falling_fault(HOUSE, "house", ONE, None))
        self.assertIsNone(self.judged(TWO, long, EMPTY))
        self.assertIsNone(self.judged(TWO, TWO.after(("happened", 32, "war"), ("died", 33, "c"))))

    def test_words(self):
        long = TWO.after(("died", 33, "c"))
        for record, answer, what in (
                (TWO, None, "none"), (EMPTY, None, "none"), (TWO, Fall(ONE, long), "agree"), (TWO, Fall(EMPTY, long), "agree"),
                (EMPTY, Fall(EMPTY, long), "alive"), (EMPTY, Fall(TWO.shorter(), long), "alive"),
                (TWO, Fall(TWO, ONE), "other"), (TWO, Fall(TWO, TWO.after(("died", 31, "c"))), "other"),
                (TWO, Fall(TWO, TWO), "takers"), (TWO, Fall(TWO, TWO.after(("died", 34, "c"))), "takers"),
                (TWO, Fall(long, long), "takers"), (ONE, Fall(ONE, ONE.after(("died", 33, "b"))), "takers"),
                (TWO, Fall(TWO, Record(Lives(Customs(16), (("a", 40, None),)), long.rows)), None)):
            self.assertEqual(falling_fault(HOUSE, "house", record, answer), what)
        other_lives = Record(Lives(Customs(16), (("a", 41, None),)), long.rows)
        self.assertEqual(self.judged(TWO, other_lives), "other")
        self.assertEqual(self.judged(other_lives, long), "agree")
        self.assertEqual(falling_fault(HOUSE, "house", TWO, None, year=31), "none")
        self.assertEqual(self.judged(TWO, long, long), "agree")
        self.assertEqual(self.judged(long, TWO, long, year=40), None)

    def test_results_keep_their_arguments(self):
        kept = Fall([1], "x")
        self.assertEqual((kept.record, kept.other), ([1], "x"))


class TestSettledSince(FamilyTest):
    def test_years(self):
        for record, year, wanted in ((TWO, 99, 33), (TWO, 33, 33), (TWO, 32, None), (TWO, None, None), (EMPTY, 99, None),
                                     (ONE, 99, 27), (ONE, 10 ** 7, 27), (TWO.after(("died", 20, "b")), 99, 33),
                                     (TWO.after(("died", 20, "b"), ("died", 20, "c")), None, 20),
                                     (TWO.after(("died", 20, "b"), ("died", 20, "c")), 19, None)):
            self.same(self.quick(settled_since, HOUSE, "house", record, year=year), wanted)
        self.same(settled_since(deed_of(Named("a"), Year(9)), "house", EMPTY), 0)
        self.same(settled_since(deed_of(Named("a"), Year(9)), "house", ONE), 0)
        self.same(settled_since(deed_of(Whole(KIN), Year(9)), "house", EMPTY, year=99), 9)
        self.same(settled_since(deed_of(Whole(KIN), Year(9)), "house", EMPTY, year=8), None)
        self.same(settled_since(deed_of(Whole(KIN), Close(KIN)), "house", ONE, year=12), 11)

    def test_far_years(self):
        deed = deed_of(Whole(KIN), Year(10 ** 6))
        self.same(self.quick(settled_since, deed, "house", EMPTY, year=10 ** 7), 10 ** 6)
        self.same(self.quick(settled_since, deed, "house", EMPTY, year=10 ** 6 - 1), None)
        lives = Lives(Customs(16, limit=10 ** 6), (("a", 40, None),))
        deed = deed_of(Living(KIN), Death("a") + 10 ** 6)
        record = Record(lives, (("born", 7, "a", "k"), ("died", 10, "a")))
        self.same(self.quick(settled_since, deed, "house", record, year=10 ** 7), 10 ** 6 + 9)
        self.same(self.quick(state_changes, deed, "house", record, year=10 ** 7), ((0, "sure"), (10 ** 6 + 9, "settled")))


class TestStateChanges(FamilyTest):
    def test_changes(self):
        for record, year, wanted in (
                (EMPTY, None, ((0, "waiting"),)), (EMPTY, 10 ** 7, ((0, "waiting"),)), (ONE, 3, ((0, "waiting"),)),
                (ONE, None, ((0, "waiting"), (10, "sure"))), (ONE, 99, ((0, "waiting"), (10, "sure"), (27, "settled"))),
                (TWO, 30, ((0, "waiting"),)), (TWO, 31, ((0, "waiting"), (31, "fallen"))),
                (TWO, 99, ((0, "waiting"), (31, "fallen"))),
                (TWO.after(("died", 20, "c")), 99, ((0, "waiting"), (20, "sure"), (27, "settled")))):
            told = self.quick(state_changes, HOUSE, "house", record, year=year)
            self.same(told, wanted)
        self.same(state_changes(deed_of(Named("a"), Year(9)), "house", ONE), ((0, "settled"),))
        self.same(state_changes(deed_of(Living(KIN), Death("a")), "house", ONE, year=50), ((0, "sure"), (10, "settled")))

    def test_measuring_lives(self):
        lives = Lives(Customs(16, limit=21), (("a", 40, None), ("z", 30, None)))
        record = Record(lives, TWO.rows)
        self.same(state_changes(HOUSE, "house", record, year=99, measuring=("a",)), ((0, "waiting"), (31, "fallen")))
        self.same(state_changes(HOUSE, "house", record, year=99)[-1], (33, "settled"))


class TestWhatFollows(WaitingTest):
    def samples(self):
        for seed in range(7001, 7061):
            dice = Dice(seed)
            lives = dice.lives()
            yield dice, lives, dice.deed(lives), dice.record(lives, 8), dice.dice.choice((None, lives.names[:1]))

    def state_by_hand(self, deed, name, record, year, measuring):
        known = record.until(year)
        death = known.last_death(measuring or record.lives.names)
        limit = record.customs.limit
        if death + limit <= year and is_open(deed, name, known, year=death + limit):
            return "fallen"
        if not is_open(deed, name, record, year=year):
            return "settled"
        told = number(deed, name, record, year=year, measuring=measuring)
        return "sure" if told is not None and told <= limit else "waiting"

    def test_states_year_by_year(self):
        for dice, lives, deed, record, measuring in self.samples():
            name = deed.names[-1]
            top = record.end + dice.dice.choice((0, 2, 25))
            states = [self.state_by_hand(deed, name, record, year, measuring) for year in range(top + 1)]
            for year, wanted in enumerate(states):
                self.same(state_at(deed, name, record, year=year, measuring=measuring), wanted)
                found = falling(deed, name, record, year=year, measuring=measuring)
                self.assertEqual(found is None, wanted in ("settled", "sure"))
                self.assertIsNone(falling_fault(deed, name, record, found, year=year, measuring=measuring))
                if found is not None:
                    self.falls(deed, name, found, record, year, measuring)
            changes = [(year, word) for year, word in enumerate(states) if year == 0 or states[year - 1] != word]
            self.same(state_changes(deed, name, record, year=top, measuring=measuring), tuple(changes))
            self.assertLessEqual(len(changes), 3)
            settled = [year for year in range(top + 1) if not is_open(deed, name, record, year=year)]
            self.same(settled_since(deed, name, record, year=top), settled[0] if settled else None)

    def test_what_is_final_stays_so(self):
        for dice, lives, deed, record, measuring in self.samples():
            name = deed.names[-1]
            year = record.end
            before = state_at(deed, name, record, measuring=measuring)
            for _ in range(4):
                longer = dice.longer(record, year + 1)
                later = max(longer.end, year + dice.dice.choice((0, 1, 5)))
                now = state_at(deed, name, longer, year=later, measuring=measuring)
                if before in ("settled", "fallen"):
                    self.assertEqual(now, before)
                if before == "settled":
                    self.assertEqual(deed.takers(name, longer), deed.takers(name, record))
                if before == "sure":
                    self.assertIn(now, ("sure", "settled"))
                record, year, before = longer, later, now

    def test_good_gifts_never_fall(self):
        for _, lives, deed, record, measuring in self.samples():
            name = deed.names[-1]
            start = Record(lives)
            good = is_good(deed, name, start, measuring=measuring)
            self.assertEqual(falling(deed, name, start, measuring=measuring) is None, good)
            if good:
                self.assertNotEqual(state_at(deed, name, record, year=record.end + 30, measuring=measuring), "fallen")

    def test_settled_since_and_the_number(self):
        for _, lives, deed, record, measuring in self.samples():
            name = deed.names[-1]
            told = reach(deed, name, Record(lives), measuring=measuring)
            death = record.last_death(measuring or lives.names)
            since = settled_since(deed, name, record, year=record.end + 99)
            if death < LATE and since is not None and since > death and told.number is not None:
                self.assertLessEqual(since, death + told.number)
            if told.number is not None and told.number >= 1:
                death = told.record.last_death(measuring or lives.names)
                self.assertEqual(settled_since(deed, name, told.record), death + told.number)


class TestErrors(FamilyTest):
    DEED = Deed(Gift("x", Mate("p"), Death("q")), Gift("y", Named("a"), Year(4), over="x"))

    def calls(self):
        yield from (state_at, falling, state_changes)
        yield lambda deed, name, record, **more: falling_fault(deed, name, record, None, **more)

    def test_the_order(self):
        for call in self.calls():
            for thing in (*ODD, "w", 1, Always()):
                self.refused(NoGift, {"name": thing}, call, self.DEED, thing, EMPTY, year=-1, measuring=())
            self.refused(NoLife, {"name": "p"}, call, self.DEED, "y", EMPTY, year=-1, measuring=())
            for thing in (-1, 10 ** 7 + 1, *[odd for odd in NOT_WHOLE if odd is not None]):
                self.refused(BadYear, {"year": thing}, call, HOUSE, "house", EMPTY, year=thing, measuring=())
            self.refused(BadMeasuring, {"what": "empty"}, call, HOUSE, "house", EMPTY, measuring=())
            self.refused(BadMeasuring, {"what": "life"}, call, HOUSE, "house", EMPTY, measuring=["b"])
            self.refused(BadMeasuring, {"what": "double"}, call, HOUSE, "house", EMPTY, measuring=("a", "a"))

    def test_settled_since(self):
        self.refused(NoGift, {"name": "w"}, settled_since, self.DEED, "w", EMPTY, year=-1)
        self.refused(NoLife, {"name": "p"}, settled_since, self.DEED, "y", EMPTY, year=-1)
        self.refused(BadYear, {"year": -1}, settled_since, HOUSE, "house", EMPTY, year=-1)
        self.assertRaises(TypeError, settled_since, HOUSE, "house", EMPTY, measuring=("a",))

    def test_a_survivor(self):
        self.assertEqual(state_at(deed_of(Named("a"), Survivor("a")), "house", EMPTY), "settled")


if __name__ == "__main__":
    unittest.main()
