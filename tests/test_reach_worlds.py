"""Numbers of gifts, held against the records of small worlds, and what follows for all deeds [6.2] [6.4]."""

import unittest

from lastlife.conditions import By, Unless
from lastlife.customs import Customs
from lastlife.dates import (Close, Death, Earlier, First, Happening, Last, Later, Plus, Survivor, Year)
from lastlife.deed import Deed
from lastlife.facts import place
from lastlife.gifts import Gift
from lastlife.kin import Children, Grandchildren
from lastlife.lives import Lives
from lastlife.opening import is_open
from lastlife.reach import number, reach, reach_fault, two_families
from lastlife.record import Record
from lastlife.takers import FirstReaching, Living, Mate, Named, Reaching, Told, Whole
from lastlife.years import LATE
from tests.helpers import FamilyTest
from tests.samples import Dice, futures

KIN = Children("a")
GRAND = Grandchildren("a")
SEEDS = range(1001, 1161)
ENDLESS = 10 ** 30


def amount(found):
    """The number, endless counted as greatest."""
    return ENDLESS if found is None else found


def greatest_lag(deed, name, ahead, year, measuring):
    """The greatest lag of those of the records that decide the gift; 0 if there is none."""
    best = 0
    for one in ahead:
        death = one.last_death(measuring)
        if death < LATE and one.end > max(year, death, best + death):
            if set(deed.takers(name, one)) != set(deed.takers(name, one.shorter())):
                best = one.end - death
    return best


class TestSmallWorlds(FamilyTest):
    GIFTS = (
        Gift("f", Living(KIN), Death("a") + 2), Gift("f", Reaching(KIN, 3), Death("a")), Gift("f", Mate("a"), Year(2)),
        Gift("f", FirstReaching(KIN, 2), Death("a") + 2), Gift("f", Whole(KIN), Close(KIN)),
        Gift("f", Told(KIN), Survivor("a")), Gift("f", Named("b"), Happening("war") | (Death("a") + 3)),
        Gift("f", Named("b"), Death("a"), By(Happening("war"), Death("b") + 2)),
        Gift("f", Named("b"), Death("a"), Unless(First(KIN, "death"), Death("a") + 1)),
        Gift("f", Living(GRAND), Last(KIN, 3)), Gift("f", Whole(GRAND), Close(GRAND)))

    def test_no_record_with_one_or_two_rows_has_a_greater_lag(self):
        lives = Lives(Customs(1, years_after=1), (("a", 4, None), ("b", 2, "a")))
        record = Record(lives, (("wed", 1, "a", "m"), ("born", 2, "a", "k"), ("died", 3, "b"), ("died", 4, "a")))
        for year in range(5):
            ahead = futures(record, year, 2, 4)
            for gift in self.GIFTS:
                deed = Deed(gift)
                for measuring in (("a", "b"), ("a",), ("b",)):
                    found = number(deed, "f", record, year=year, measuring=measuring)
                    self.assertGreaterEqual(amount(found), greatest_lag(deed, "f", ahead, year, measuring))

    def test_here_one_row_shows_the_number(self):
        lives = Lives(Customs(1, years_after=0, limit=2), (("a", 4, None),))
        record = Record(lives, (("wed", 1, "a", "m"), ("born", 2, "a", "k"), ("died", 3, "a")))
        ahead = futures(record, 3, 1, 9)
        for gift, wanted in (
                (Gift("f", Living(KIN), Death("a") + 4), 3), (Gift("f", Reaching(KIN, 6), Death("a")), 4),
                (Gift("f", FirstReaching(KIN, 4), Death("a") + 3), 2), (Gift("f", Whole(KIN), Death("a")), 0),
                (Gift("f", Named("a"), Year(3), By(Survivor("a"), Year(8))), 5),
                (Gift("f", Named("a"), Year(3), By(Happening("war"), Year(9))), 6)):
            deed = Deed(gift)
            self.same(number(deed, "f", record), wanted)
            self.assertEqual(greatest_lag(deed, "f", ahead, 3, ("a",)), wanted)

    def test_deeds_by_chance(self):
        for seed in SEEDS:
            dice = Dice(seed)
            lives = dice.lives()
            deed, record = dice.deed(lives), dice.record(lives)
            if len(record) + len(record.persons) < 9:
                ahead = futures(record, record.end, 1, 6)
                for name in deed.names:
                    found = number(deed, name, record)
                    self.assertGreaterEqual(amount(found), greatest_lag(deed, name, ahead, record.end, lives.names))

    def test_longer_records_by_chance(self):
        for seed in SEEDS:
            dice = Dice(seed)
            lives = dice.lives()
            deed, record = dice.deed(lives), dice.record(lives)
            name, measuring = deed.names[-1], lives.names[:2]
            found = number(deed, name, record, measuring=measuring)
            for _ in range(15):
                one, ahead = record, []
                for _ in range(10):
                    one = dice.longer(one, record.end + 1)
                    ahead.append(one)
                self.assertGreaterEqual(amount(found), greatest_lag(deed, name, ahead, record.end, measuring))
                death = one.last_death(measuring)
                if death < LATE and found is not None:
                    self.assertFalse(is_open(deed, name, one, year=max(death + found, record.end)))


def renamed(text, turn):
    return turn.get(text, text)


def changed_kin(kin, turn):
    return type(kin)(renamed(kin.life, turn))


def changed_date(date, turn, times):
    """The date with other names, and with all numbers multiplied."""
    if isinstance(date, Year):
        return Year(date.number * times)
    if isinstance(date, (Death, Survivor)):
        return type(date)(renamed(date.life, turn))
    if isinstance(date, Happening):
        return Happening(renamed(date.name, turn))
    if isinstance(date, Close):
        return Close(changed_kin(date.kin, turn))
    if isinstance(date, (First, Last)):
        what = date.what if isinstance(date.what, str) else date.what * times
        return type(date)(changed_kin(date.kin, turn), what)
    if isinstance(date, Plus):
        return Plus(changed_date(date.date, turn, times), date.years * times)
    return (Earlier if isinstance(date, Earlier) else Later)(*[changed_date(one, turn, times) for one in date.dates])


def changed_taker(taker, turn, times):
    if isinstance(taker, (Named, Mate)):
        return type(taker)(renamed(taker.life, turn))
    if isinstance(taker, (Reaching, FirstReaching)):
        return type(taker)(changed_kin(taker.kin, turn), taker.age * times)
    return type(taker)(changed_kin(taker.kin, turn))


def changed_deed(deed, turn, times=1):
    gifts = []
    for gift in deed:
        rules = [type(rule)(changed_date(rule.one, turn, times), changed_date(rule.other, turn, times))
                 for rule in gift.conditions]
        gifts.append(Gift(renamed(gift.name, turn), changed_taker(gift.taker, turn, times),
                          changed_date(gift.date, turn, times), *rules, over=gift.over and renamed(gift.over, turn)))
    return Deed(*gifts)


def changed_lives(lives, turn, times=1):
    old = lives.customs
    customs = Customs(old.parent_age * times, years_after=old.years_after * times, wed_age=old.wed_age * times,
                      limit=old.limit)
    return Lives(customs, [(renamed(name, turn), age * times, parent and renamed(parent, turn))
                           for name, age, parent in lives])


def changed_rows(rows, turn):
    turned = [(*row[:2], *[renamed(name, turn) for name in row[2:]]) for row in rows]
    return sorted(turned, key=place)


class TestWhatFollows(FamilyTest):
    def samples(self):
        for seed in SEEDS:
            dice = Dice(seed)
            lives = dice.lives()
            yield dice, lives, dice.deed(lives), dice.record(lives)

    def test_from_a_later_beginning_it_is_no_greater(self):
        for dice, lives, deed, record in self.samples():
            name = deed.names[-1]
            before = ENDLESS
            for _ in range(6):
                found = amount(number(deed, name, record))
                self.assertLessEqual(found, before)
                if not is_open(deed, name, record):
                    self.assertEqual(found, 0)
                before = found
                record = dice.longer(record, record.end + 1)

    def test_for_more_measuring_lives_it_is_no_greater(self):
        for _, lives, deed, record in self.samples():
            found = [amount(number(deed, deed.names[-1], record, measuring=lives.names[:many + 1]))
                     for many in range(len(lives))]
            self.assertEqual(found, sorted(found, reverse=True))
            turned = number(deed, deed.names[-1], record, measuring=lives.names[::-1])
            self.assertEqual(amount(turned), found[-1])

    def test_a_life_that_nothing_names_does_not_matter(self):
        for _, lives, deed, record in self.samples():
            name = deed.names[-1]
            more = Lives(lives.customs, (*lives.rows, ("e", 7, None)))
            self.assertEqual(number(deed, name, record, measuring=lives.names),
                             number(deed, name, Record(more, record.rows), measuring=lives.names))
            self.assertEqual(number(deed, name, Record(lives)), number(deed, name, Record(more)))

    def test_other_names_do_not_matter(self):
        turn = {"a": "zz", "b": "m", "c": "aaa", "d": "q", "war": "sale", "fire": "a", "f": "hh", "g": "ff", "h": "c",
                **{name: f"n{name}" for name in "pqrstuvwxyz"}}
        for _, lives, deed, record in self.samples():
            if len(record.unborn) > 1:
                # The order of twins hangs on their names.
                continue
            other = Record(changed_lives(lives, turn), changed_rows(record.rows, turn))
            self.assertEqual(number(deed, deed.names[-1], record),
                             number(changed_deed(deed, turn), renamed(deed.names[-1], turn), other))

    def test_what_is_not_in_the_chain_does_not_matter(self):
        for _, lives, deed, record in self.samples():
            name = deed.names[-1]
            first = deed.gifts[0]
            root = Gift(first.name, first.taker, first.date, *first.conditions, until=Happening("sale"), part=(1, 2))
            other = Deed(Gift("z", Mate("a"), Happening("sale"), part=(1, 2)), root, *deed.gifts[1:])
            old = lives.customs
            customs = Customs(old.parent_age, years_after=old.years_after, wed_age=old.wed_age, limit=old.limit + 5)
            self.assertEqual(number(deed, name, record),
                             number(other, name, Record(Lives(customs, lives.rows), record.rows)))

    def test_all_numbers_multiplied(self):
        for _, lives, deed, _ in self.samples():
            name = deed.names[-1]
            found = amount(number(deed, name, Record(lives)))
            for times in (1, 2, 7):
                other = amount(number(changed_deed(deed, {}, times), name, Record(changed_lives(lives, {}, times))))
                self.assertGreaterEqual(other, min(times * found, ENDLESS))

    def test_all_that_is_told_fits(self):
        met = 0
        for _, lives, deed, record in self.samples():
            name = deed.names[-1]
            told = self.quick(reach, deed, name, record)
            self.assertIsNone(self.quick(reach_fault, deed, name, record, told))
            for years in (1, 4, 50):
                found = two_families(deed, name, record, years)
                self.assertEqual(found is not None, amount(told.number) >= years)
                if found is not None:
                    met += 1
                    self.assertEqual(found.until(record.end), record)
                    self.assertGreaterEqual(found.end - found.last_death(lives.names), years)
                    self.assertNotEqual(set(deed.takers(name, found)), set(deed.takers(name, found.shorter())))
        self.assertGreater(met, 30)


if __name__ == "__main__":
    unittest.main()
