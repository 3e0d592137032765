"""Calls at the bounds of [0.11]: no answer takes long, and no record that is returned has too many rows."""

import unittest

from lastlife.conditions import By, Unless
from lastlife.customs import Customs
from lastlife.dates import Close, Death, Earlier, First, Happening, Last, Later, Plus, Survivor, Year
from lastlife.deed import Deed
from lastlife.errors import BadRecord
from lastlife.gifts import Gift
from lastlife.kin import Children, Grandchildren
from lastlife.lives import Lives
from lastlife.measuring import measuring_sets, measuring_table
from lastlife.opening import Open, newcomers_may_take, standing, state, state_fault, two_ways
from lastlife.reach import number, reach, reach_fault, two_families
from lastlife.record import Record
from lastlife.takers import FirstReaching, Living, Mate, Named, Reaching
from tests.helpers import FamilyTest
from tests.samples import HAPPENINGS, Dice

# Three gifts with one, two and one conditions: eleven dates, which nine Earlier and Later make of twenty.
CONDITIONS = (1, 2, 1)
DATES = 20


class LargeDice(Dice):
    """Deeds and records by chance that are as large as can be."""

    def lives(self, most=4):
        dice = self.dice
        customs = Customs(dice.choice((1, 15, 20)), years_after=dice.choice((0, 1, 5)), wed_age=dice.choice((0, 18)))
        ages = [dice.randint(30, 70), dice.randint(0, 70), dice.randint(0, 10), dice.randint(0, 5)]
        parents = [None, None, "a", dice.choice((None, "a"))]
        return Lives(customs, list(zip("abcd", ages, parents)))

    def leaf(self, names):
        dice = self.dice
        life = dice.choice(names)
        found = dice.choice((Year(dice.randint(0, 99)), Death(life), Survivor(life), Close(Children(life)),
                             Happening(dice.choice(HAPPENINGS)), self.class_date_of(names), self.class_date_of(names)))
        return Plus(found, dice.randint(0, 60)) if dice.random() < 0.4 else found

    def class_date_of(self, names):
        if self.class_date is None:
            kin, age = Children(self.dice.choice(names)), self.dice.randint(0, 40)
            self.class_date = self.dice.choice((First(kin, "death"), First(kin, age), Last(kin, "death"), Last(kin, age),
                                                Close(Grandchildren(self.dice.choice(names)))))
        return self.class_date

    def date_of(self, names, many):
        if many == 1:
            return self.leaf(names)
        left = self.dice.randint(1, many - 1)
        return self.dice.choice((Earlier, Later))(self.date_of(names, left), self.date_of(names, many - left))

    def taker(self, names):
        dice = self.dice
        kin, age = self.kin(names), dice.randint(0, 60)
        return dice.choice((Living(kin), Reaching(kin, age), FirstReaching(kin, age), Mate(dice.choice(names)),
                            Named(dice.choice(names))))

    def deed(self, lives, most=3):
        sizes = [1] * (len(CONDITIONS) + 2 * sum(CONDITIONS))
        while sum(sizes) < DATES:
            at = self.dice.randrange(len(sizes))
            if sizes[at] < 4:
                sizes[at] += 1
        dates = iter([self.date_of(lives.names, many) for many in sizes])
        gifts = []
        for at, many in enumerate(CONDITIONS):
            date = next(dates)
            rules = [self.dice.choice((By, Unless))(next(dates), next(dates)) for _ in range(many)]
            gifts.append(Gift("fgh"[at], self.taker(lives.names), date, *rules, over=None if at == 0 else "fgh"[at - 1]))
        return Deed(*gifts)

    def record(self, lives, most=100):
        """A record with so many rows in which at most three unborn persons live at once."""
        record = Record(lives)
        names = [one + other for one in "efghijkl" for other in "efghijklm"]
        while len(record) < most:
            year = max(1, record.end) + self.dice.choice((0, 1, 1, 2))
            alive = [person for person in record.unborn if record.is_alive(person)]
            row = ("born", year, self.dice.choice([*lives.names, *record.unborn[-3:]]), names[-1])
            if alive and (len(alive) == 3 or self.dice.random() < 0.5):
                row = ("died", year, self.dice.choice(alive))
            elif self.dice.random() < 0.1:
                row = ("wed", year, self.dice.choice(lives.names), names[-1])
            try:
                record = record.after(row)
            except BadRecord:
                continue
            if row[0] != "died":
                names.pop()
        return record


class TestLimits(FamilyTest):
    def few_more(self, record, *found):
        for one in found:
            self.assertLessEqual(len(one) - len(record), 40)
            self.assertLessEqual(one.end, 10 ** 8)

    def hold(self, deed, record):
        name = deed.names[-1]
        told = self.quick(state, deed, name, record)
        self.assertIsNone(self.quick(state_fault, deed, name, record, told))
        if isinstance(told, Open):
            self.few_more(record, told.one, told.other)
        may = self.quick(newcomers_may_take, deed, name, record)
        stands = [self.quick(standing, deed, name, record, person) for person in record.persons[:4]]
        for person, is_open in ((None, may), *zip(record.persons, [word == "open" for word in stands])):
            pair = self.quick(two_ways, deed, name, record, person)
            self.assertEqual(pair is not None, is_open)
            self.few_more(record, *(pair or ()))
        for measuring in (None, record.lives.names[:1]):
            found = self.quick(number, deed, name, record, measuring=measuring)
            told = self.quick(reach, deed, name, record, measuring=measuring)
            self.same(told.number, found)
            self.assertIsNone(self.quick(reach_fault, deed, name, record, told, measuring=measuring))
            if found != 0:
                self.few_more(record, told.record)
                far = 10 ** 6 if found is None else found
                self.few_more(record, self.quick(two_families, deed, name, record, far, measuring=measuring))

    def test_large_deeds(self):
        for seed in range(40):
            dice = LargeDice(seed)
            lives = dice.lives()
            self.hold(dice.deed(lives), Record(lives))

    def test_all_sets_of_measuring_lives(self):
        for seed in range(40, 60):
            dice = LargeDice(seed)
            lives = dice.lives()
            deed = dice.deed(lives)
            table = self.quick(measuring_table, deed, "h", lives)
            self.assertEqual(len(table), 15)
            good = [names for names, found in table if found is not None and found <= lives.customs.limit]
            least = [names for names in good if not any(set(other) < set(names) for other in good)]
            self.same(self.quick(measuring_sets, deed, "h", lives), tuple(least))

    def test_records_with_a_hundred_rows(self):
        for seed in range(60, 72):
            dice = LargeDice(seed)
            lives = Lives(Customs(1), dice.lives().rows)
            deed, record = dice.deed(lives), dice.record(lives)
            self.assertEqual(len(record), 100)
            self.hold(deed, record)


if __name__ == "__main__":
    unittest.main()
