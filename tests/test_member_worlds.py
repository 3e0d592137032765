"""Members and causes, held against the records of small worlds, and what follows for all deeds [7.2] to [7.6]."""

import unittest

from lastlife.causes import CAUSES, cause_fault, cause_number, cause_numbers, cause_reach, joining, latest_birth, leaving
from lastlife.conditions import By, Unless
from lastlife.customs import Customs
from lastlife.dates import Close, Death, First, Happening, Last, Survivor, Year
from lastlife.deed import Deed
from lastlife.gifts import Gift
from lastlife.kin import Children, Grandchildren
from lastlife.lives import Lives
from lastlife.members import member_fault, member_number, member_numbers, member_reach
from lastlife.reach import number
from lastlife.record import Record, record_fault
from lastlife.takers import FirstReaching, Living, Mate, Named, Reaching, Told, Whole
from lastlife.years import LATE
from tests.helpers import FamilyTest
from tests.samples import Dice, futures

KIN, GRAND = Children("a"), Grandchildren("a")
ENDLESS = 10 ** 30
SEEDS = range(4001, 4101)


def amount(found):
    """The number, endless counted as greatest."""
    return ENDLESS if found is None else found


def delay(told):
    """The greatest delay of a Latest, None if there is none."""
    return {"never": None, "within": told.years, "endless": ENDLESS}[told.kind]


def cause_rows(record):
    """The cause rows of a record, each with the record without it."""
    for at, row in enumerate(record.rows):
        rows = record.rows[:at] + record.rows[at + 1:]
        if row[1] == record.end and record_fault(record.lives, rows) is None:
            yield row, Record(record.lives, rows)


def seen(deed, name, ahead, year, measuring, known):
    """The greatest lags that the records show: for persons and None, for causes, for joining and leaving."""
    best = {}

    def note(what, lag):
        best[what] = max(best.get(what, lag), lag)

    for one in ahead:
        death = one.last_death(measuring)
        if death == LATE:
            continue
        takers = set(deed.takers(name, one))
        births = [one.birth(person) for person in takers - set(known) if one.birth(person) is not None]
        if births:
            note("birth", max(births) - death)
        lag = one.end - death
        if one.end <= year or lag < 1:
            continue
        changed = takers ^ set(deed.takers(name, one.shorter()))
        for person in changed:
            note(person if person in known else None, lag)
        for row, other in cause_rows(one):
            others = set(deed.takers(name, other))
            if takers != others:
                note((row[0],), lag)
            if row[0] == "born" and row[3] in takers:
                note("joining", lag)
            if row[0] == "died" and row[2] in others - takers:
                note("leaving", lag)
    return best


class WorldTest(FamilyTest):
    def hold(self, deed, name, ahead, record, year, measuring):
        """What is told is right, and no record shows a greater lag."""
        more = {"year": year, "measuring": measuring}
        known = record.until(year).persons
        best = seen(deed, name, ahead, year, measuring, known)
        members = {}
        for person in (*known, None):
            told = self.quick(member_reach, deed, name, record, person, **more)
            self.assertGreaterEqual(amount(told.number), best.get(person, 0))
            self.assertIsNone(member_fault(deed, name, record, person, told, **more))
            members[person] = amount(told.number)
        whole = amount(number(deed, name, record, **more))
        self.assertEqual(max(members.values()), whole)
        causes = {}
        for cause in CAUSES:
            told = self.quick(cause_reach, deed, name, record, cause, **more)
            self.assertGreaterEqual(amount(told.number), best.get((cause,), 0))
            self.assertIsNone(cause_fault(deed, name, record, cause, told, **more))
            causes[cause] = amount(told.number)
        self.assertEqual(max(causes.values()), whole)
        self.hold_births(deed, name, record, more, best, members[None], causes)

    def hold_births(self, deed, name, record, more, best, newcomers, causes):
        joined = joining(deed, name, record, **more)
        left = leaving(deed, name, record, **more)
        self.assertTrue(best.get("joining", 0) <= amount(joined.number) <= min(causes["born"], newcomers))
        self.assertTrue(best.get("leaving", 0) <= amount(left.number) <= causes["died"])
        for told, what in ((joined, "joining"), (left, "leaving")):
            if told.number != 0:
                start, one = record.until(more["year"]), told.record
                lag = one.end - one.last_death(more["measuring"])
                self.assertTrue(lag > record.customs.limit if told.number is None else lag == told.number)
                self.assertEqual(one.until(more["year"]), start)
                self.assertIn(what, seen(deed, name, [one], more["year"], more["measuring"], start.persons))
        if not isinstance(deed[name].taker, (Named, Mate)):
            late = delay(latest_birth(deed, name, record, **more))
            if "birth" in best:
                self.assertGreaterEqual(late, best["birth"])
            if late is not None and late >= 1:
                self.assertGreaterEqual(newcomers, late)
            if amount(joined.number) >= 1:
                self.assertGreaterEqual(late, amount(joined.number))


class TestSmallWorlds(WorldTest):
    GIFTS = (
        Gift("f", Living(KIN), Death("a") + 2), Gift("f", Reaching(KIN, 3), Death("a")), Gift("f", Mate("a"), Year(2)),
        Gift("f", FirstReaching(KIN, 2), Death("a") + 2), Gift("f", Whole(KIN), Close(KIN)),
        Gift("f", Told(KIN), Survivor("a")), Gift("f", Named("b"), Happening("war") | (Death("a") + 3)),
        Gift("f", Named("b"), Death("a"), By(Happening("war"), Death("b") + 2)),
        Gift("f", Named("b"), Death("a"), Unless(First(KIN, "death"), Death("a") + 1)),
        Gift("f", Living(GRAND), Last(KIN, 3)), Gift("f", Whole(GRAND), Close(GRAND)))

    def test_no_record_with_one_or_two_rows_has_a_greater_lag(self):
        lives = Lives(Customs(1, years_after=1, limit=2), (("a", 4, None), ("b", 2, "a")))
        record = Record(lives, (("wed", 1, "a", "m"), ("born", 2, "a", "k"), ("died", 3, "b"), ("died", 4, "a")))
        for year in (0, 2, 3, 4):
            ahead = futures(record, year, 2, 3)
            for gift in self.GIFTS:
                self.hold(Deed(gift), "f", ahead, record, year, ("a", "b"))
                self.hold(Deed(gift), "f", ahead, record, year, ("b",))

    def test_deeds_by_chance(self):
        for seed in SEEDS:
            dice = Dice(seed)
            lives = dice.lives()
            deed, record = dice.deed(lives), dice.record(lives)
            if len(record) + len(record.persons) < 9:
                ahead = futures(record, record.end, 1, 6)
                for name in deed.names:
                    self.hold(deed, name, ahead, record, record.end, lives.names)

    def test_longer_records_by_chance(self):
        for seed in SEEDS:
            dice = Dice(seed)
            lives = dice.lives()
            deed, record = dice.deed(lives), dice.record(lives)
            ahead = []
            for _ in range(8):
                one = record
                for _ in range(8):
                    one = dice.longer(one, record.end + 1)
                    ahead.append(one)
            self.hold(deed, deed.names[-1], ahead, record, record.end, lives.names[:2])


class TestWhatFollows(FamilyTest):
    def test_from_a_second_beginning_the_numbers_are_no_greater(self):
        for seed in SEEDS:
            dice = Dice(seed)
            lives = dice.lives()
            deed, record = dice.deed(lives), dice.record(lives, 3)
            name = deed.names[-1]
            later = record
            for _ in range(3):
                later = dice.longer(later, record.end + 1)
            newcomers = amount(member_number(deed, name, record, None))
            for person in later.persons:
                bound = amount(member_number(deed, name, record, person)) if person in record.persons else newcomers
                self.assertLessEqual(amount(member_number(deed, name, later, person)), bound)
            self.assertLessEqual(amount(member_number(deed, name, later, None)), newcomers)
            for (_, one), (_, other) in zip(cause_numbers(deed, name, record), cause_numbers(deed, name, later)):
                self.assertLessEqual(amount(other), amount(one))

    def test_pairs(self):
        for seed in SEEDS:
            dice = Dice(seed)
            lives = dice.lives()
            deed, record = dice.deed(lives), dice.record(lives)
            for name in deed.names:
                pairs = cause_numbers(deed, name, record)
                self.same(pairs, tuple((cause, cause_number(deed, name, record, cause)) for cause in CAUSES))
                taker = deed[name].taker
                if not isinstance(taker, (Named, Mate)):
                    pairs = member_numbers(deed, name, record)
                    wanted = [(person, member_number(deed, name, record, person))
                              for person in (*taker.kin.members(record), None)]
                    self.same(pairs, tuple(wanted))
                    whole = number(deed, name, record)
                    self.assertEqual(max(amount(told) for _, told in pairs), amount(whole))
                    if isinstance(taker, Told):
                        self.assertEqual(pairs[-1], (None, 0))


if __name__ == "__main__":
    unittest.main()
