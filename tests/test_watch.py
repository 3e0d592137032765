"""Watches, which follow a record whose rows become known late and in any order [8.7] to [8.13]."""

import itertools
import unittest

from lastlife.conditions import By
from lastlife.customs import Customs
from lastlife.dates import Close, Death, Happening, Year
from lastlife.deed import Deed
from lastlife.errors import BadMeasuring, BadWatch, BadYear, NoGift, NoLife, NotTrue
from lastlife.facts import place
from lastlife.gifts import Gift
from lastlife.kin import Children
from lastlife.lives import Lives
from lastlife.record import Record, record_fault
from lastlife.takers import Living, Mate, Named, Reaching, Whole
from lastlife.waiting import state_at
from lastlife.watch import Watch
from tests.helpers import NOT_WHOLE, ODD, Always, FamilyTest
from tests.samples import Dice, rows_at

KIN = Children("a")
LIVES = Lives(Customs(16), (("a", 40, None),))
HOUSE = Deed(Gift("house", Reaching(KIN, 25), Death("a")))
B, C, A = ("born", 3, "a", "b"), ("born", 9, "a", "c"), ("died", 10, "a")
WAR = Happening("war")


def watch_of(*rows, deed=HOUSE, lives=LIVES, **more):
    watch = Watch(deed, lives, **more)
    if rows:
        watch.hear(*rows)
    return watch


class WatchTest(FamilyTest):
    def like(self, watch):
        """All that can be seen of a watch."""
        return (watch.record, watch.now, watch.log, watch.deadline, len(watch), tuple(watch), watch.withdrawn())

    def untouched(self, watch, error, attributes, call, *args, **more):
        """The call raises this error, and nothing has changed."""
        before = self.like(watch)
        self.refused(error, attributes, call, *args, **more)
        self.assertEqual(self.like(watch), before)


class TestExample(WatchTest):
    def test_the_example(self):
        watch = Watch(HOUSE, LIVES)
        self.assertIsNone(watch.hear(B))
        watch.hear(A)
        self.same(watch.told("house"), ("sure", ()))
        watch.hear(C)
        self.same(watch.told("house"), ("waiting", ()))
        self.assertIsNone(watch.wait(31))
        self.same(watch.told("house"), ("fallen", ()))
        self.assertIsNone(watch.forget(C))
        self.same(watch.log, ((0, "house", "waiting", ()), (10, "house", "sure", ()), (10, "house", "waiting", ()),
                              (31, "house", "fallen", ()), (31, "house", "settled", ("b",))))
        self.same(watch.withdrawn(), (2, 3))
        self.same(watch.grounds("house"), (B, A))
        found = watch.tried(lambda same: [same.hear(("died", 20, "b")), same.told("house")])
        self.assertEqual(found, [None, ("settled", ())])


class TestNewWatch(WatchTest):
    def test_attributes(self):
        watch = Watch(HOUSE, LIVES)
        self.assertIs(watch.deed, HOUSE)
        self.assertIs(watch.lives, LIVES)
        self.same(watch.measuring, ("a",))
        self.assertEqual(watch.record, Record(LIVES))
        self.same((watch.now, watch.deadline), (0, None))
        self.same(watch.log, ((0, "house", "waiting", ()),))
        self.same((len(watch), tuple(watch), watch.withdrawn()), (1, watch.log, ()))

    def test_class_values(self):
        self.same(Watch.STATES, ("waiting", "sure", "settled", "fallen"))
        self.same(Watch.FINAL, ("settled", "fallen"))
        self.same((watch_of().STATES, watch_of().FINAL), (Watch.STATES, Watch.FINAL))

    def test_methods_stand_in_the_class(self):
        self.stands_in(Watch, "__init__", "now", "log", "deadline", "amend", "hear", "forget", "put_right", "wait", "told",
                       "state", "takers", "withdrawn", "grounds", "trial", "tried", "__len__", "__iter__")

    def test_measuring(self):
        lives = Lives(Customs(16), (("a", 40, None), ("z", 30, None)))
        self.same(Watch(HOUSE, lives).measuring, ("a", "z"))
        passed = ["z", "a"]
        watch = Watch(HOUSE, lives, measuring=passed)
        passed.append("b")
        self.same(watch.measuring, ("z", "a"))
        self.same(watch_of(A, lives=lives).deadline, None)
        self.same(watch_of(A, lives=lives, measuring=["a"]).deadline, 31)

    def test_an_entry_for_each_gift(self):
        deed = Deed(Gift("one", Named("a"), Year(3), part=(1, 2)), Gift("two", Named("a"), WAR, part=(1, 2)))
        watch = Watch(deed, LIVES)
        self.same(watch.log, ((0, "one", "settled", ("a",)), (0, "two", "waiting", ())))

    def test_errors(self):
        for thing in (*ODD, LIVES, HOUSE.gifts, Always()):
            self.refused(BadWatch, {"what": "deed"}, Watch, thing, 3, measuring=())
        for thing in (*ODD, HOUSE, LIVES.rows, Always()):
            self.refused(BadWatch, {"what": "lives"}, Watch, HOUSE, thing, measuring=())
        deed = Deed(Gift("x", Mate("a"), Death("q"), By(Death("r"), Year(3))), Gift("z", Named("s"), Year(3), over="x"))
        self.refused(NoLife, {"name": "q"}, Watch, deed, LIVES, measuring=())
        deed = Deed(Gift("x", Mate("a"), Year(3)), Gift("z", Named("s"), Death("r"), over="x"))
        self.refused(NoLife, {"name": "s"}, Watch, deed, LIVES, measuring=())
        self.refused(BadMeasuring, {"what": "empty"}, Watch, HOUSE, LIVES, measuring=[])
        for thing in (*ODD, "b", 1, Always()):
            self.refused(BadMeasuring, {"what": "life"}, Watch, HOUSE, LIVES, measuring=(thing,))
        self.refused(BadMeasuring, {"what": "double"}, Watch, HOUSE, LIVES, measuring=("a", "a", "b"))


class TestAmend(WatchTest):
    def test_rows_in_any_order(self):
        rows = (("wed", 2, "a", "m"), B, C, A, ("happened", 10, "war"), ("died", 12, "m"))
        wanted = sorted(rows, key=place)
        logs = set()
        for order in list(itertools.permutations(rows))[::40]:
            watch = watch_of(*order)
            self.assertEqual((watch.record.rows, watch.now), (tuple(wanted), 12))
            logs.add(watch.log)
        self.assertEqual(len(logs), 1)

    def test_one_by_one_in_any_order(self):
        rows = (("wed", 2, "a", "m"), B, C, A, ("happened", 10, "war"))
        for order in itertools.permutations(rows):
            watch = watch_of()
            for row in order:
                watch.hear(list(row))
            self.assertEqual(watch.record.rows, tuple(sorted(rows, key=place)))
            self.same(watch.told("house"), ("waiting", ()))

    def test_all_that_is_a_case_of_it(self):
        watch = watch_of(B)
        self.assertIsNone(watch.amend())
        self.assertIsNone(watch.amend(heard=[list(A)]))
        self.assertIsNone(watch.put_right(B, ("born", 4, "a", "b")))
        self.assertEqual(watch.record.rows, (("born", 4, "a", "b"), A))
        self.assertIsNone(watch.amend(forgotten=[list(A)], heard=(("died", 9, "a"),)))
        self.assertEqual(watch.record.rows, (("born", 4, "a", "b"), ("died", 9, "a")))
        self.assertIsNone(watch.forget(("died", 9, "a"), ("born", 4, "a", "b")))
        self.assertEqual((watch.record.rows, watch.now), ((), 10))
        self.assertIsNone(watch.hear())
        self.assertIsNone(watch.forget())

    def test_a_row_that_is_forgotten_and_heard_at_once(self):
        watch = watch_of(B, A)
        log = watch.log
        watch.amend(forgotten=(B,), heard=(B,))
        self.assertEqual((watch.record.rows, watch.log), ((B, A), log))

    def test_now_never_goes_back(self):
        watch = watch_of(B, A)
        self.same(watch.now, 10)
        watch.forget(A)
        self.same(watch.now, 10)
        watch.hear(("died", 7, "a"))
        self.same((watch.now, watch.deadline), (10, 28))
        watch.hear(("happened", 10 ** 7, "war"))
        self.same(watch.now, 10 ** 7)

    def test_forgotten_rows(self):
        watch = watch_of(B, A)
        for thing in (*ODD, ("born", 3, "a"), ("burn", 3, "a", "b"), ("born", 0, "a", "b"), ("died", 10 ** 9 + 1, "a"),
                      ("born", 3, "a", "B"), ("died", True, "a"), Always()):
            self.untouched(watch, NotTrue, {"what": "row", "row": thing}, watch.forget, thing)
            self.untouched(watch, NotTrue, {"what": "row", "row": thing}, watch.forget, B, thing, ("died", 3, "a"))
            self.untouched(watch, NotTrue, {"what": "row", "row": thing}, watch.hear, thing)
        for row in (("died", 9, "a"), ("born", 3, "a", "c"), ("died", 10 ** 9, "a")):
            self.untouched(watch, NotTrue, {"what": "absent", "row": row}, watch.forget, row, 5)
        self.untouched(watch, NotTrue, {"what": "absent", "row": B}, watch.forget, B, B)
        listed = list(B)
        self.untouched(watch, NotTrue, {"what": "absent", "row": listed}, watch.forget, B, listed)

    def test_heard_rows(self):
        watch = watch_of(B, A)
        late = ("happened", 10 ** 7 + 1, "war")
        self.untouched(watch, NotTrue, {"what": "year", "row": late}, watch.hear, late, 3)
        self.untouched(watch, NotTrue, {"what": "known", "row": B}, watch.hear, B, late)
        self.untouched(watch, NotTrue, {"what": "known", "row": C}, watch.hear, C, C)
        listed = list(C)
        self.untouched(watch, NotTrue, {"what": "known", "row": listed}, watch.hear, C, listed)
        # What is forgotten is asked for first.
        self.untouched(watch, NotTrue, {"what": "absent", "row": C}, watch.put_right, C, late)
        self.untouched(watch, NotTrue, {"what": "row", "row": 3}, watch.amend, forgotten=[3], heard=[4])

    def test_rows_that_are_no_record(self):
        watch = watch_of(B, ("died", 12, "a"))
        for heard, what, row in (
                ((("born", 3, "z", "c"),), "parent", ("born", 3, "z", "c")), ((("born", 14, "a", "c"),), "dead", ("born", 14, "a", "c")),
                ((["born", 4, "a", "b"],), "name", ("born", 4, "a", "b")), ((("died", 4, "a"),), "dead", ("died", 12, "a")),
                ((("wed", 13, "a", "m"),), "dead", ("wed", 13, "a", "m")), ((("died", 2, "b"),), "person", ("died", 2, "b")),
                ((("happened", 5, "war"), ("happened", 4, "war")), "again", ("happened", 5, "war"))):
            self.untouched(watch, NotTrue, {"what": what, "row": row}, watch.hear, *heard)
        self.untouched(watch, NotTrue, {"what": "person", "row": ("died", 13, "b")}, watch.amend, forgotten=[B],
                       heard=[("died", 13, "b")])

    def test_an_elder_row_at_fault(self):
        """If a parent's death becomes known late, a child's birth may be too late for it."""
        watch = watch_of(C)
        self.untouched(watch, NotTrue, {"what": "dead", "row": C}, watch.hear, ("died", 7, "a"))
        watch.hear(("died", 8, "a"))
        self.same(watch.deadline, 29)

    def test_rows_that_tie(self):
        lives = Lives(Customs(5), (("a", 40, None), ("b", 30, None)))
        watch = watch_of(("born", 3, "a", "k"), lives=lives)
        tied = ("born", 3, "b", "k")
        self.untouched(watch, NotTrue, {"what": "order", "row": tied}, watch.hear, tied)
        watch = watch_of(tied, lives=lives)
        self.untouched(watch, NotTrue, {"what": "order", "row": ("born", 3, "a", "k")}, watch.hear, ("born", 3, "a", "k"))
        watch = watch_of(lives=lives)
        self.untouched(watch, NotTrue, {"what": "order", "row": tied}, watch.hear, ["born", 3, "a", "k"], tied)

    def test_too_many_rows(self):
        rows = [("happened", 5, one + other) for one in "abcdefghijklmno" for other in "abcdefghijklmno"][:201]
        watch = watch_of(*rows[:200], deed=Deed(Gift("house", Named("a"), Year(3))))
        self.untouched(watch, NotTrue, {"what": "many", "row": rows[200]}, watch.hear, rows[200])


class TestTold(WatchTest):
    def test_delays(self):
        watch = watch_of(B, C, A)
        watch.wait(40)
        for delay, wanted in ((0, ("fallen", ())), (9, ("fallen", ())), (10, ("waiting", ())), (30, ("waiting", ())),
                              (40, ("waiting", ())), (41, ("waiting", ())), (10 ** 7, ("waiting", ()))):
            self.same(watch.told("house", delay=delay), wanted)
        watch.forget(C)
        for delay, wanted in ((0, ("settled", ("b",))), (13, ("settled", ("b",))), (14, ("sure", ())), (30, ("sure", ())),
                              (31, ("waiting", ()))):
            self.same(watch.told("house", delay=delay), wanted)
        self.same((watch.state("house"), watch.takers("house")), ("settled", ("b",)))

    def test_only_what_happened_up_to_the_year_counts(self):
        deed = Deed(Gift("house", Living(KIN), Death("a")))
        watch = watch_of(B, A, deed=deed)
        watch.wait(20)
        self.same(watch.told("house", delay=5), ("settled", ("b",)))
        for change in (lambda: watch.hear(("died", 18, "b")), lambda: watch.put_right(("died", 18, "b"), ("died", 16, "b")),
                       lambda: watch.forget(("died", 16, "b"))):
            change()
            self.same(watch.told("house", delay=watch.now - 15), ("settled", ("b",)))

    def test_takers_only_if_settled(self):
        watch = watch_of(B, A)
        self.assertEqual(HOUSE.takers("house", watch.record), ("b",))
        self.same((watch.state("house"), watch.takers("house")), ("sure", ()))

    def test_errors(self):
        watch = watch_of(B)
        for thing in (*ODD, "w", 1, Always()):
            self.untouched(watch, NoGift, {"name": thing}, watch.told, thing, delay=-1)
            self.untouched(watch, NoGift, {"name": thing}, watch.state, thing)
            self.untouched(watch, NoGift, {"name": thing}, watch.takers, thing)
            self.untouched(watch, NoGift, {"name": thing}, watch.grounds, thing)
        for thing in (*NOT_WHOLE, -1, 10 ** 7 + 1):
            self.untouched(watch, BadYear, {"year": thing}, watch.told, "house", delay=thing)

    def test_wait(self):
        watch = watch_of(B, A)
        for thing in (*NOT_WHOLE, -1, 9, 10 ** 7 + 1):
            self.untouched(watch, BadYear, {"year": thing}, watch.wait, thing)
        before = self.like(watch)
        watch.wait(10)
        self.assertEqual(self.like(watch), before)
        watch.wait(27)
        self.same(watch.log[-1], (27, "house", "settled", ("b",)))
        watch.wait(10 ** 7)
        self.same((watch.now, len(watch)), (10 ** 7, 3))


class TestLog(WatchTest):
    def test_entries_that_are_withdrawn_and_stand_again(self):
        watch = watch_of(B, A)
        watch.wait(31)
        self.same(watch.log[-1], (31, "house", "settled", ("b",)))
        watch.hear(C)
        self.same(watch.withdrawn(), (1, 2))
        self.same(watch.log[-1], (31, "house", "fallen", ()))
        watch.forget(C)
        self.same(watch.withdrawn(), (3,))
        self.same(watch.log[3:], ((31, "house", "fallen", ()), (31, "house", "settled", ("b",))))
        watch.hear(("died", 31, "b"))
        self.same(watch.withdrawn(), (2, 3, 4))
        self.same(watch.log[4:], ((31, "house", "settled", ("b",)),))
        watch.forget(("died", 31, "b"))
        self.same(watch.withdrawn(), (3,))

    def test_other_takers_are_another_entry(self):
        deed = Deed(Gift("house", Living(KIN), Death("a")), Gift("field", Mate("a"), Death("a"), over="house"))
        watch = watch_of(B, A, deed=deed)
        self.same(watch.log[2:], ((10, "house", "settled", ("b",)), (10, "field", "settled", ())))
        watch.hear(("died", 5, "b"), ("wed", 6, "a", "m"))
        self.same(watch.log[4:], ((10, "house", "settled", ()), (10, "field", "settled", ("m",))))

    def test_what_is_told_hangs_on_rows_and_now_alone(self):
        for seed in range(8001, 8041):
            dice = Dice(seed)
            lives = dice.lives()
            deed, record = dice.deed(lives), dice.record(lives, 8)
            one, other = watch_of(*record.rows, deed=deed, lives=lives), watch_of(deed=deed, lives=lives)
            rows = list(record.rows)
            for _ in range(6):
                row = dice.dice.choice(rows_at(record, dice.dice.randint(1, 9), "zz"))
                try:
                    other.amend(heard=[row])
                except NotTrue:
                    continue
            year = max(one.now, other.now)
            other.amend(forgotten=other.record.rows, heard=rows)
            one.wait(year)
            other.wait(year)
            for name in deed.names:
                self.same(one.told(name), other.told(name))
                self.same(one.told(name)[0], state_at(deed, name, record, year=year))

    def test_entries_that_stand(self):
        for seed in range(8101, 8161):
            dice = Dice(seed)
            lives = dice.lives()
            watch = Watch(dice.deed(lives), lives)
            records = [watch.record] * len(watch)
            for _ in range(12):
                self.step(dice, watch)
                records += [watch.record] * (len(watch) - len(records))
                gone = [at for at, entry in enumerate(watch.log)
                        if records[at].until(entry[0]) != watch.record.until(entry[0])]
                self.same(watch.withdrawn(), tuple(gone))
                for at, (_, name, state, takers) in enumerate(watch.log):
                    told = watch.told(name)
                    if at not in gone and state in Watch.FINAL:
                        self.assertEqual(told, (state, takers))
                    if at not in gone and state == "sure":
                        self.assertIn(told[0], ("sure", "settled"))
                latest = {entry[1]: entry[2:] for entry in watch.log}
                self.assertEqual(latest, {name: watch.told(name) for name in watch.deed.names})

    def step(self, dice, watch):
        """Amend the watch by chance."""
        rows = watch.record.rows
        name = next(name for name in "pqrstuvwxyz" if name not in watch.record.persons)
        row = dice.dice.choice(rows_at(watch.record, max(1, watch.now + dice.dice.choice((-3, -1, 0, 0, 1, 2))), name))
        chance = dice.dice.random()
        try:
            if chance < 0.15:
                watch.wait(watch.now + 3)
            elif chance < 0.35 and rows:
                watch.forget(dice.dice.choice(rows))
            elif chance < 0.5 and rows:
                watch.put_right(dice.dice.choice(rows), row)
            else:
                watch.hear(row)
        except NotTrue:
            pass


class TestGrounds(WatchTest):
    def test_rows_without_which_the_rest_is_no_record(self):
        deed = Deed(Gift("house", Living(KIN), Death("a") + 25))
        watch = watch_of(B, A, ("died", 20, "b"), deed=deed)
        self.same(watch.told("house"), ("settled", ()))
        # Without its birth b cannot have died.
        self.same(watch.grounds("house"), (A, ("died", 20, "b")))

    def test_several_gifts_and_rows_that_do_not_count(self):
        deed = Deed(Gift("house", Living(KIN), Death("a")), Gift("field", Mate("a"), Death("a"), over="house"))
        rows = (("wed", 1, "a", "m"), B, ("happened", 4, "war"), C, A)
        watch = watch_of(*rows, deed=deed)
        self.same(watch.told("house"), ("settled", ("b", "c")))
        self.same(watch.grounds("house"), (B, C, A))
        self.same(watch.told("field"), ("settled", ()))
        self.same(watch.grounds("field"), (A,))
        watch = watch_of(rows[0], A, deed=deed)
        self.same(watch.grounds("field"), (rows[0], A))

    def test_it_changes_nothing(self):
        watch = watch_of(B, C, A)
        before = self.like(watch)
        watch.grounds("house")
        self.assertEqual(self.like(watch), before)
        self.same(watch_of().grounds("house"), ())

    def test_by_hand(self):
        for seed in range(8201, 8241):
            dice = Dice(seed)
            lives = dice.lives()
            deed, record = dice.deed(lives), dice.record(lives, 8)
            watch = watch_of(*record.rows, deed=deed, lives=lives)
            watch.wait(watch.now + dice.dice.choice((0, 4)))
            for name in deed.names:
                wanted = []
                for row in record.rows:
                    if record_fault(lives, [one for one in record.rows if one != row]) is None:
                        told = watch.tried(lambda same: [same.forget(row), same.told(name)])
                        if told[1] != watch.told(name):
                            wanted.append(row)
                self.same(watch.grounds(name), tuple(wanted))


class TestTrials(WatchTest):
    def test_all_is_taken_back(self):
        watch = watch_of(B, A)
        before = self.like(watch)
        with watch.trial() as same:
            self.assertIs(same, watch)
            same.hear(C)
            same.wait(99)
            self.same((watch.now, watch.state("house"), watch.record.rows), (99, "fallen", (B, C, A)))
            same.forget(A)
            self.assertIsNone(watch.deadline)
        self.assertEqual(self.like(watch), before)
        self.same(watch.told("house"), ("sure", ()))
        watch.wait(27)
        self.same(watch.log[-1], (27, "house", "settled", ("b",)))

    def test_trials_within_trials(self):
        watch = watch_of(B)
        before = self.like(watch)
        with watch.trial():
            watch.hear(A)
            inner = self.like(watch)
            with watch.trial() as same:
                same.hear(C)
                with same.trial():
                    same.wait(31)
                    self.same(watch.state("house"), "fallen")
                self.same(watch.now, 10)
            self.assertEqual(self.like(watch), inner)
        self.assertEqual(self.like(watch), before)

    def test_what_the_watch_is_like_at_the_start_of_the_block(self):
        watch = watch_of(B)
        trial = watch.trial()
        watch.hear(A)
        before = self.like(watch)
        with trial:
            watch.hear(C)
        self.assertEqual(self.like(watch), before)

    def test_a_trial_that_ends_by_an_error(self):
        watch = watch_of(B)
        before = self.like(watch)
        with self.assertRaises(KeyError):
            with watch.trial() as same:
                same.hear(A)
                raise KeyError("x")
        self.assertEqual(self.like(watch), before)
        self.untouched(watch, NotTrue, {"what": "known", "row": B}, watch.tried, lambda same: [same.wait(50), same.hear(B)])

    def test_tried(self):
        watch = watch_of(B)
        before = self.like(watch)
        self.assertEqual(watch.tried(lambda same: (same.hear(A), same.now, same.deadline)), (None, 10, 31))
        self.assertIs(watch.tried(lambda same: same), watch)
        nested = watch.tried(lambda one: (one.hear(A), one.tried(lambda other: (other.wait(50), other.state("house"))),
                                          one.now))
        self.assertEqual(nested, (None, (None, "settled"), 10))
        self.assertEqual(self.like(watch), before)


class TestNothingIsKept(WatchTest):
    def test_rows_that_are_lists(self):
        row = ["born", 3, "a", "b"]
        watch = watch_of(row)
        row[1] = 5
        self.assertEqual(watch.record.rows, (B,))
        self.assertIsInstance(watch.record.rows[0], tuple)
        heard = [list(A)]
        watch.amend(heard=heard)
        self.assertEqual(heard, [list(A)])

    def test_what_is_returned_does_not_change(self):
        watch = watch_of(B)
        log, record = watch.log, watch.record
        watch.hear(A)
        self.assertEqual((log, record.rows), (((0, "house", "waiting", ()),), (B,)))

    def test_a_class_that_closes(self):
        deed = Deed(Gift("house", Whole(KIN), Close(KIN)))
        watch = watch_of(B, A, deed=deed)
        self.same(watch.told("house"), ("sure", ()))
        watch.wait(11)
        self.same(watch.told("house"), ("settled", ("b",)))


if __name__ == "__main__":
    unittest.main()
