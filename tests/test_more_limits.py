"""More calls at the bounds of [0.11] and [9.10]: no answer takes long, and no record has too many rows."""

import unittest

from lastlife.alike import alike, differing, parting, parting_fault
from lastlife.cases import case_fault, idle_conditions, idle_gifts, least_case, sure_gifts
from lastlife.causes import CAUSES, cause_fault, cause_numbers, cause_reach, joining, latest_birth, leaving
from lastlife.classes import judged
from lastlife.customs import Customs
from lastlife.dates import Close, Earlier, First, Last, Later
from lastlife.deed import Deed
from lastlife.gifts import Gift
from lastlife.kin import Children, Grandchildren
from lastlife.latest import latest, latest_fault
from lastlife.lives import Lives
from lastlife.members import member_fault, member_numbers, member_reach
from lastlife.mends import all_lots, least_mends, mend_fault, spoiling
from lastlife.record import Record
from lastlife.takers import Mate, Named
from lastlife.waiting import falling, falling_fault, settled_since, state_at, state_changes
from lastlife.watch import Watch
from tests.helpers import FamilyTest
from tests.test_limits import LargeDice

FAR = 10 ** 7


class TwoClassDates(LargeDice):
    """Deeds with two class dates, and deeds that are like them but for one place."""

    def class_date_of(self, names):
        if self.class_date is None:
            self.class_date = [self.new_class_date(names), self.new_class_date(names)]
        return self.dice.choice(self.class_date)

    def new_class_date(self, names):
        kin, age = Children(self.dice.choice(names)), self.dice.randint(0, 40)
        return self.dice.choice((First(kin, "birth"), First(kin, "death"), First(kin, age), Last(kin, "death"), Last(kin, age),
                                 Close(Grandchildren(self.dice.choice(names)))))

    def like(self, deed, names):
        gifts = list(deed)
        at = self.dice.randrange(len(gifts))
        gift = gifts[at]
        taker, date, rules = gift.taker, gift.date, list(gift.conditions)
        place = self.dice.choice("tdr")
        if place == "t":
            taker = self.taker(names)
        elif place == "d":
            date = self.date_of(names, 2)
        else:
            rules[0] = type(rules[0])(self.date_of(names, 2), self.date_of(names, 2))
        gifts[at] = Gift(gift.name, taker, date, *rules, over=gift.over)
        return Deed(*gifts)


class TestMoreLimits(FamilyTest):
    def few_more(self, record, *found):
        for one in found:
            if one is not None:
                self.assertLessEqual(len(one) - len(record), 40)
                self.assertLessEqual(one.end, 10 ** 8)

    def samples(self, seeds):
        """Lives, deeds and records: none with rows, and records with a hundred rows."""
        for seed in seeds:
            dice = LargeDice(seed)
            lives = dice.lives()
            record = Record(lives)
            if seed % 3 == 0:
                lives = Lives(Customs(1), lives.rows)
                record = dice.record(lives)
            yield lives, dice.deed(lives), record

    def test_members_and_causes(self):
        for lives, deed, record in self.samples(range(100, 118)):
            for person in (None, record.persons[-1]):
                told = self.quick(member_reach, deed, "h", record, person)
                self.assertIsNone(self.quick(member_fault, deed, "h", record, person, told))
                self.few_more(record, told.record)
            self.quick(cause_numbers, deed, "h", record)
            for cause in CAUSES:
                told = self.quick(cause_reach, deed, "h", record, cause)
                self.assertIsNone(self.quick(cause_fault, deed, "h", record, cause, told))
                self.few_more(record, told.record)
            for call in (joining, leaving):
                self.few_more(record, self.quick(call, deed, "h", record).record)
            if not isinstance(deed["h"].taker, (Named, Mate)):
                self.quick(member_numbers, deed, "h", record)
                self.quick(judged, deed, "h", record, custom="each")
                self.few_more(record, self.quick(latest_birth, deed, "h", record).record)

    def test_dates(self):
        for lives, deed, record in self.samples(range(120, 138)):
            dice = LargeDice(len(record) + 7)
            wide = [dice.date_of(lives.names, 4) for _ in range(4)]
            for date in (Later(*wide), Earlier(*wide), deed["f"].date):
                for year in (None, FAR):
                    told = self.quick(latest, date, record, year=year)
                    self.assertIsNone(self.quick(latest_fault, date, record, told, year=year))
                    self.few_more(record, told.record)

    def test_waiting(self):
        for lives, deed, record in self.samples(range(140, 158)):
            for year in (None, FAR):
                self.quick(state_at, deed, "h", record, year=year)
                told = self.quick(falling, deed, "h", record, year=year)
                self.assertIsNone(self.quick(falling_fault, deed, "h", record, told, year=year))
                if told is not None:
                    self.few_more(record, told.record, told.other)
                self.quick(settled_since, deed, "h", record, year=year)
                self.quick(state_changes, deed, "h", record, year=year)
            watch = self.quick(Watch, deed, lives)
            self.quick(watch.hear, *record.rows)
            self.quick(watch.told, "h")
            self.quick(watch.withdrawn)

    def test_grounds(self):
        for lives, deed, record in self.samples(range(160, 166)):
            watch = Watch(deed, lives)
            watch.hear(*record.rows)
            self.quick(watch.grounds, "h")

    def test_two_deeds(self):
        for seed in range(170, 190):
            dice = TwoClassDates(seed)
            lives = dice.lives()
            deed = dice.deed(lives)
            other = dice.like(deed, lives.names) if seed % 2 else dice.deed(lives)
            for person in (None, "a"):
                found = self.quick(parting, deed, "h", other, "h", lives, person=person)
                self.assertIsNone(self.quick(parting_fault, deed, "h", other, "h", lives, found, person=person))
                self.few_more(Record(lives), found)
            self.quick(alike, deed, "h", other, "h", lives)
            self.quick(differing, deed, other, lives)

    def test_cases(self):
        for seed in range(190, 210):
            dice = TwoClassDates(seed)
            lives = dice.lives()
            deed = dice.deed(lives)
            for takes, fails in ((("h",), ()), ((), ("h",)), (("g",), ("f",)), (("h",), ("f",)), ((), ("f", "g"))):
                found = self.quick(least_case, deed, lives, takes=takes, fails=fails)
                self.assertIsNone(self.quick(case_fault, deed, lives, found, takes=takes, fails=fails))
                self.few_more(Record(lives), found)
            for call in (idle_gifts, sure_gifts):
                self.quick(call, deed, lives)
            for name in "fgh":
                self.quick(idle_conditions, deed, name, lives)

    def test_mends(self):
        for lives, deed, _ in self.samples(range(211, 223)):
            pool = [("within", "f", 9), ("within", "g", 9), ("within", "h", 9), ("drop", "h", 0)]
            self.quick(all_lots, deed, lives, pool)
            self.quick(spoiling, deed, lives, pool)
            for mend in self.quick(least_mends, deed, lives, pool):
                self.assertIsNone(self.quick(mend_fault, deed, lives, pool, mend))
                self.few_more(Record(lives), *[record for _, _, record in mend.breaches])


if __name__ == "__main__":
    unittest.main()
