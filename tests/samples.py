"""Lives, deeds and records for tests, and small worlds of records that go on from them."""

import random

from lastlife.conditions import By, Unless
from lastlife.customs import Customs
from lastlife.dates import Close, Death, Earlier, First, Happening, Last, Later, Plus, Survivor, Year
from lastlife.deed import Deed
from lastlife.errors import BadRecord
from lastlife.facts import place
from lastlife.gifts import Gift
from lastlife.kin import Children, Grandchildren
from lastlife.lives import Lives
from lastlife.record import Record, record_fault
from lastlife.takers import FirstReaching, Living, Mate, Named, Reaching, Told, Whole

NEW_NAMES = tuple([*"pqrstuvwxyz", *[letter * 2 for letter in "efghijklmnopq"]])
HAPPENINGS = ("war", "fire")


def rows_at(record, year, name):
    """All rows of a year that could stand in a record, newcomers by this name."""
    rows = [("born", year, parent, name) for parent in record.persons if record.birth(parent) is not None]
    rows += [("wed", year, life, name) for life in record.lives.names]
    rows += [("happened", year, what) for what in HAPPENINGS]
    return rows + [("died", year, person) for person in record.persons]


def futures(record, year, many, span):
    """All records that agree with the record up to the year and have at most so many rows in the years behind it."""
    start = record.until(year)
    found, latest = [start], [start]
    for _ in range(many):
        longer = []
        for one in latest:
            name = next(name for name in NEW_NAMES if name not in one.persons)
            for at in range(year + 1, year + span + 1):
                for row in rows_at(one, at, name):
                    if not one.rows or place(row) > place(one.rows[-1]):
                        if record_fault(one.lives, [*one.rows, row]) is None:
                            longer.append(one.after(row))
        found += longer
        latest = longer
    return found


class Dice:
    """Lives, deeds and records by chance, the same ones for the same seed."""

    def __init__(self, seed):
        self.dice = random.Random(seed)
        self.class_date = None

    def lives(self, most=4):
        dice = self.dice
        customs = Customs(dice.choice((1, 2, 3)), years_after=dice.choice((0, 1, 2)), wed_age=dice.choice((0, 3)),
                          limit=dice.choice((0, 3, 21)))
        rows = []
        for name in "abcd"[:dice.randint(1, most)]:
            age, parent = dice.randint(0, 8), None
            elders = [row for row in rows if row[1] >= customs.parent_age]
            if elders and dice.random() < 0.5:
                elder = dice.choice(elders)
                age, parent = dice.randint(0, elder[1] - customs.parent_age), elder[0]
            rows.append((name, age, parent))
        return Lives(customs, rows)

    def kin(self, names):
        return self.dice.choice((Children, Children, Grandchildren))(self.dice.choice(names))

    def taker(self, names):
        dice = self.dice
        kind = dice.choice((Named, Mate, Told, Whole, Living, Living, Reaching, Reaching, FirstReaching, FirstReaching))
        if kind in (Named, Mate):
            return kind(dice.choice(names))
        if kind in (Reaching, FirstReaching):
            return kind(self.kin(names), dice.randint(0, 5))
        return kind(self.kin(names))

    def class_date_of(self, names):
        """A class date; it is always the same one."""
        if self.class_date is None:
            kin, age = Children(self.dice.choice(names)), self.dice.randint(0, 5)
            self.class_date = self.dice.choice((First(kin, "birth"), First(kin, "death"), First(kin, age),
                                                Last(kin, "death"), Last(kin, age),
                                                Close(Grandchildren(self.dice.choice(names)))))
        return self.class_date

    def date(self, names, depth=1):
        dice = self.dice
        chance = dice.random()
        if depth < 3 and chance < 0.2:
            return dice.choice((Earlier, Later))(self.date(names, depth + 1), self.date(names, depth + 1))
        if depth < 3 and chance < 0.4:
            return Plus(self.date(names, depth + 1), dice.randint(0, 5))
        life = dice.choice(names)
        return dice.choice((Year(dice.randint(-2, 9)), Death(life), Death(life), Survivor(life), Close(Children(life)),
                            Happening(dice.choice(HAPPENINGS)), self.class_date_of(names)))

    def deed(self, lives, most=3):
        names = lives.names
        gifts = []
        for at in range(self.dice.randint(1, most)):
            rules = [self.dice.choice((By, Unless))(self.date(names), self.date(names))
                     for _ in range(self.dice.choice((0, 0, 1, 2)))]
            gifts.append(Gift("fgh"[at], self.taker(names), self.date(names), *rules,
                              over=None if at == 0 else "fgh"[at - 1]))
        return Deed(*gifts)

    def longer(self, record, first=1):
        """The record with one row more, which is of the first year or a later one."""
        name = self.dice.choice([name for name in NEW_NAMES if name not in record.persons])
        for _ in range(30):
            year = max(first, record.end) + self.dice.choice((0, 0, 1, 1, 2, 3))
            try:
                return record.after(self.dice.choice(rows_at(record, year, name)))
            except BadRecord:
                continue
        return record

    def record(self, lives, most=5):
        record = Record(lives)
        for _ in range(self.dice.randint(0, most)):
            record = self.longer(record)
        return record
