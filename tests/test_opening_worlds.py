"""What is told of open gifts, held against the records of small worlds, and what follows for all deeds [4.7]."""

import unittest

from lastlife.conditions import By, Unless
from lastlife.customs import Customs
from lastlife.dates import Close, Death, First, Happening, Last, Survivor, Year
from lastlife.deed import Deed
from lastlife.errors import BadRecord
from lastlife.follower import has_come
from lastlife.gifts import Gift
from lastlife.kin import Children, Grandchildren
from lastlife.lives import Lives
from lastlife.opening import is_open, newcomers_may_take, standing, state, state_fault
from lastlife.record import Record
from lastlife.takers import FirstReaching, Living, Mate, Named, Reaching, Told, Whole
from tests.helpers import FamilyTest
from tests.samples import Dice, futures

KIN = Children("a")
GRAND = Grandchildren("a")
SEEDS = range(1, 161)


def seeds_with_deeds():
    """Dice, lives, a deed and a record, by chance."""
    for seed in SEEDS:
        dice = Dice(seed)
        lives = dice.lives()
        yield dice, dice.deed(lives), dice.record(lives)


class WorldTest(FamilyTest):
    def hold(self, deed, name, record, year, ahead):
        """What is told at the year holds in all records of a small world; return whether it shows the gift open."""
        past = record.until(year)
        now = deed.takers(name, past)
        opened = is_open(deed, name, record, year=year)
        stands = {person: standing(deed, name, record, person, year=year) for person in past.persons}
        may = newcomers_may_take(deed, name, record, year=year)
        seen = set()
        for one in ahead:
            takers = deed.takers(name, one)
            if set(takers) != set(now):
                seen.add(None)
                self.assertTrue(opened, one.rows)
            for person, word in stands.items():
                self.assertNotEqual(word, "out" if person in takers else "takes", (person, one.rows))
                if (person in takers) != (person in now):
                    seen.add(person)
            newcomers = [person for person in takers if person not in stands]
            self.assertTrue(may or not newcomers, one.rows)
            if newcomers:
                seen.add(newcomers[0])
        return seen


class TestAllRecordsOfASmallWorld(WorldTest):
    def test_some_deeds(self):
        """In this world each gift that is open shows so within two rows of three years."""
        lives = Lives(Customs(1, years_after=1), (("a", 4, None), ("b", 2, "a")))
        record = Record(lives, (("wed", 1, "a", "m"), ("born", 2, "a", "k"), ("died", 4, "a"), ("died", 5, "k")))
        gifts = (
            Gift("f", Living(KIN), Death("a")), Gift("f", Reaching(KIN, 5), Death("a")), Gift("f", Mate("a"), Year(2)),
            Gift("f", FirstReaching(KIN, 3), Death("a") + 1), Gift("f", Whole(KIN), Close(KIN)),
            Gift("f", Told(KIN), Survivor("a")), Gift("f", Named("b"), Happening("war")),
            Gift("f", Named("b"), Year(3), By(Death("b"), Happening("war"))),
            Gift("f", Named("b"), Death("a"), Unless(First(KIN, "death"), Year(4))),
            Gift("f", Living(GRAND), Last(KIN, 3)), Gift("f", Whole(GRAND), Close(GRAND)))
        for year in range(6):
            ahead = futures(record, year, 2, 3)
            for gift in gifts:
                deed = Deed(gift)
                seen = self.hold(deed, "f", record, year, ahead)
                if seen:
                    self.assertTrue(is_open(deed, "f", record, year=year))

    def test_what_two_rows_show_is_all_there_is(self):
        """Here two rows are enough for all that can happen, so what is told is told of each person exactly."""
        lives = Lives(Customs(1, years_after=0), (("a", 4, None),))
        for rows in ((), (("born", 1, "a", "k"),), (("born", 1, "a", "k"), ("died", 2, "a"))):
            record = Record(lives, rows)
            for gift in (Gift("f", Living(KIN), Death("a")), Gift("f", Whole(KIN), Year(2)), Gift("f", Mate("a"), Year(2)),
                         Gift("f", Reaching(KIN, 2), Year(1)), Gift("f", FirstReaching(KIN, 2), Year(3)),
                         Gift("f", Named("a"), Death("a"), By(Happening("war"), Death("a")))):
                deed = Deed(gift)
                for year in (record.end, record.end + 1):
                    seen = self.hold(deed, "f", record, year, futures(record, year, 2, 3))
                    told = [person for person in record.persons
                            if standing(deed, "f", record, person, year=year) == "open"]
                    self.assertEqual([person for person in record.persons if person in seen], told, (str(gift.taker), year))
                    newcomers = [person for person in seen if person is not None and person not in record.persons]
                    self.assertEqual(newcomers_may_take(deed, "f", record, year=year), bool(newcomers))

    def test_deeds_by_chance(self):
        for dice, deed, record in seeds_with_deeds():
            if len(record) + len(record.persons) < 9:
                for name in deed.names:
                    self.hold(deed, name, record, record.end, futures(record, record.end, 1, 4))

    def test_longer_records_by_chance(self):
        for dice, deed, record in seeds_with_deeds():
            ahead = []
            for _ in range(12):
                one = record
                for _ in range(dice.dice.randint(2, 9)):
                    one = dice.longer(one, record.end + 1)
                ahead.append(one)
            self.hold(deed, deed.names[-1], record, record.end, ahead)


class TestWhatFollows(FamilyTest):
    def test_what_is_settled_stays_so(self):
        for dice, deed, record in seeds_with_deeds():
            name = deed.names[-1]
            before = None
            for _ in range(6):
                now = {person: standing(deed, name, record, person) for person in record.persons}
                told = (is_open(deed, name, record), newcomers_may_take(deed, name, record), deed.takers(name, record))
                if before is not None:
                    for person, word in now.items():
                        if before[1].get(person, "out" if not before[0][1] else "open") != "open":
                            self.assertEqual(word, before[1].get(person, "out"))
                    self.assertTrue(before[0][1] or not told[1])
                    if not before[0][0]:
                        self.assertEqual((told[0], told[2]), (False, before[0][2]))
                before = (told, now)
                record = dice.longer(record, record.end + 1)

    def test_a_settled_gift_ahead_with_takers(self):
        met = 0
        for _, deed, record in seeds_with_deeds():
            for ahead, name in zip(deed.names, deed.names[1:]):
                told = state(deed, ahead, record)
                takes = [person for person in record.persons if standing(deed, ahead, record, person) == "takes"]
                if takes or getattr(told, "takers", ()):
                    met += 1
                    self.assertFalse(is_open(deed, name, record))
                    self.assertEqual(state(deed, name, record).takers, ())
        self.assertGreater(met, 10)

    def test_when_nothing_can_come_any_more(self):
        for _, deed, record in seeds_with_deeds():
            rows = [("died", record.end + 1, person) for person in sorted(record.persons) if record.is_alive(person)]
            rows = [("happened", record.end + 1, name) for name in ("fire", "war")
                    if record.happened(name) is None] + rows
            after = record.customs.years_after
            last = record.after(*rows)
            self.assertFalse(is_open(deed, deed.names[-1], last, year=last.end + after))

    def test_a_root_whose_dates_have_come(self):
        for _, deed, record in seeds_with_deeds():
            gift = deed.gifts[0]
            dates = [gift.date, *[date for rule in gift.conditions for date in (rule.one, rule.other)]]
            year = record.end
            if not all(has_come(date, record, year) for date in dates):
                continue
            told = is_open(deed, gift.name, record)
            wanted = False
            if all(rule.holds(record) for rule in gift.conditions):
                taker, start = gift.taker, gift.date.year(record)
                if isinstance(taker, Mate):
                    wanted = record.is_alive(taker.life)
                if isinstance(taker, Reaching):
                    wanted = any(record.is_alive(person) and record.birth(person) <= start
                                 and record.birth(person) + taker.age > year + 1
                                 for person in taker.kin.members(record))
            self.assertEqual(told, wanted)

    def test_only_the_chain_counts(self):
        for dice, deed, record in seeds_with_deeds():
            name = deed.names[-1]
            other = Gift("z", Mate("a"), Happening("sale"), part=(1, 2))
            first = deed.gifts[0]
            root = Gift(first.name, first.taker, first.date, *first.conditions, until=Death("a"), part=(1, 2))
            changed = Deed(other, root, *deed.gifts[1:])
            customs = record.customs
            limits = Customs(customs.parent_age, years_after=customs.years_after, wed_age=customs.wed_age, limit=9)
            same = Record(Lives(limits, record.lives.rows), record.rows)
            try:
                more = record.after(("happened", record.end + 1, "sale"))
            except BadRecord:
                more = record
            self.assertEqual(is_open(deed, name, record), is_open(changed, name, same))
            self.assertEqual(is_open(deed, name, record, year=more.end), is_open(deed, name, more))
            told = state(deed, name, record)
            self.assertIsNone(state_fault(changed, name, record, told))


if __name__ == "__main__":
    unittest.main()
