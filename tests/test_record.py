"""Records [1.4] to [1.12], and the beginnings of [0.2]."""

import unittest

from lastlife.customs import Customs
from lastlife.errors import BadRecord, NoLife, NoPerson, NoRow
from lastlife.lives import Lives
from lastlife.record import Record, record_fault
from lastlife.years import LATE, MOST_YEAR
from tests.helpers import NOT_NAMES, NOT_WHOLE, ODD, FamilyTest, family, family_lives, small_records

ROWS = (
    ("born", 2, "a", "d"), ("wed", 2, "a", "m"), ("happened", 2, "war"), ("died", 2, "b"),
    ("born", 4, "d", "e"), ("wed", 4, "a", "k"), ("wed", 4, "c", "l"), ("died", 5, "m"), ("died", 7, "a"),
)


class TestFaults(FamilyTest):
    """The words of [1.7]."""

    def fault(self, wanted, *rows, customs=None):
        """The last of the rows is the first wrong one, with this word, or none is wrong."""
        lives = family_lives(customs)
        if wanted is None:
            self.assertIsNone(record_fault(lives, rows))
            self.assertEqual(Record(lives, list(rows)).rows, rows)
            return
        index = len(rows) - 1
        self.same(record_fault(lives, rows), (index, wanted))
        self.same(record_fault(lives, [*rows, None, ("died", 1, "x")]), (index, wanted))
        self.refused(BadRecord, {"index": index, "what": wanted}, Record, lives, rows)
        self.assertIsNone(record_fault(lives, rows[:-1]))

    def test_right_rows(self):
        self.assertIsNone(record_fault(family_lives(), ()))
        self.fault(None, *ROWS)

    def test_many(self):
        rows = [("happened", 1 + at, letters(at)) for at in range(201)]
        self.assertIsNone(record_fault(family_lives(), rows[:200]))
        self.assertEqual(len(Record(family_lives(), rows[:200])), 200)
        self.fault("many", *rows)
        self.fault("many", *rows[:200], None)
        self.fault("many", *rows[:200], ("died", 1, "x"))

    def test_row_is_a_list_or_tuple_with_a_word_and_its_length(self):
        for thing in (None, 1, "died", {}, (), [], ("died",), ("died", 5), ("died", 5, "a", "b"), ("happened", 5),
                      ("born", 5, "a"), ("born", 5, "a", "x", "y"), ("wed", 5, "a"), ("wed", 5, "a", "m", "n"),
                      ("happened", 5, "war", "a"), ("dies", 5, "a"), ("Died", 5, "a"), (None, 5, "a"),
                      (["died"], 5, "a"), (("died",), 5, "a"), (1, 5, "a"), {0: "died", 1: 5, 2: "a"}):
            self.fault("row", thing)
        self.fault(None, ("died", 5, "a"))
        self.assertEqual(family(["died", 5, "a"]).rows, (("died", 5, "a"),))

    def test_row_has_a_year_from_one_to_the_most(self):
        for year in (1, MOST_YEAR):
            self.fault(None, ("died", year, "a"))
        for year in (0, -1, MOST_YEAR + 1, *NOT_WHOLE):
            self.fault("row", ("died", year, "a"))

    def test_row_has_names(self):
        for thing in NOT_NAMES:
            self.fault("row", ("died", 5, thing))
            self.fault("row", ("happened", 5, thing))
            for word in ("born", "wed"):
                self.fault("row", (word, 5, "a", thing))
                self.fault("row", (word, 5, thing, "x"))

    def test_order_by_year_then_kind_then_last_name(self):
        # The names descend, and ascend where the kinds are turned about: the kind counts first.
        born, wed = ("born", 5, "b", "z"), ("wed", 5, "c", "y")
        happened, died = ("happened", 5, "x"), ("died", 5, "a")
        self.fault(None, born, wed, happened, died)
        self.fault("order", ("wed", 5, "c", "d"), born)
        self.fault("order", ("happened", 5, "d"), born)
        self.fault("order", ("happened", 5, "d"), wed)
        self.fault("order", died, born)
        self.fault("order", died, wed)
        self.fault("order", died, happened)
        self.fault(None, died, ("born", 6, "b", "x"))
        self.fault("order", ("died", 5, "a"), ("died", 4, "b"))
        self.fault(None, ("born", 5, "b", "x"), ("born", 5, "a", "y"))
        self.fault("order", ("born", 5, "a", "y"), ("born", 5, "b", "x"))
        self.fault(None, ("wed", 5, "c", "m"), ("wed", 5, "a", "n"))
        self.fault("order", ("wed", 5, "a", "n"), ("wed", 5, "c", "m"))
        self.fault(None, ("died", 5, "a"), ("died", 5, "b"))
        self.fault("order", ("died", 5, "b"), ("died", 5, "a"))
        self.fault(None, ("happened", 5, "a"), ("happened", 5, "ab"), ("happened", 5, "b"))
        self.fault("order", ("happened", 5, "b"), ("happened", 5, "ab"))

    def test_order_is_strict(self):
        for row in (("born", 5, "b", "x"), ("wed", 5, "c", "m"), ("happened", 5, "war"), ("died", 5, "a")):
            self.fault("order", row, row)
        self.fault("order", ("born", 5, "a", "x"), ("born", 5, "b", "x"))

    def test_born_parent(self):
        self.fault(None, ("born", 5, "a", "x"))
        self.fault(None, ("born", 5, "a", "x"), ("born", 6, "x", "y"))
        self.fault("parent", ("born", 5, "z", "x"))
        self.fault("parent", ("born", 5, "x", "x"))
        self.fault("parent", ("wed", 4, "a", "m"), ("born", 5, "m", "x"))
        self.fault("parent", ("happened", 4, "war"), ("born", 5, "war", "x"))

    def test_born_young(self):
        customs = Customs(12)
        self.fault("young", ("born", 1, "b", "x"), customs=customs)
        self.fault(None, ("born", 2, "b", "x"), customs=customs)
        self.fault("young", ("born", 2, "b", "x"), ("born", 13, "x", "y"), customs=customs)
        self.fault(None, ("born", 2, "b", "x"), ("born", 14, "x", "y"), customs=customs)
        self.fault("young", ("born", 5, "a", "x"), ("born", 5, "x", "y"))
        lives = Lives(Customs(3), (("a", 0, None),))
        self.assertEqual(record_fault(lives, (("born", 2, "a", "x"),)), (0, "young"))
        self.assertIsNone(record_fault(lives, (("born", 3, "a", "x"),)))

    def test_born_dead(self):
        for years_after in (0, 1, 5):
            customs = Customs(years_after=years_after)
            for parent, ahead in (("a", ()), ("x", (("born", 2, "a", "x"),))):
                rows = (*ahead, ("died", 5, parent))
                self.fault("dead", *rows, ("born", 6 + years_after, parent, "y"), customs=customs)
                if years_after > 0:
                    self.fault(None, *rows, ("born", 5 + years_after, parent, "y"), customs=customs)
        self.fault(None, ("born", 5, "a", "x"), ("died", 5, "a"), customs=Customs(years_after=0))

    def test_born_name(self):
        self.fault("name", ("born", 5, "a", "b"))
        self.fault("name", ("born", 5, "a", "a"))
        self.fault("name", ("born", 5, "a", "x"), ("born", 6, "a", "x"))
        self.fault("name", ("wed", 5, "a", "m"), ("born", 6, "a", "m"))
        self.fault("name", ("died", 5, "b"), ("born", 6, "a", "b"))
        self.fault(None, ("happened", 4, "war"), ("born", 5, "a", "war"))

    def test_born_words_in_their_order(self):
        customs = Customs(12, years_after=0)
        self.fault("order", ("died", 5, "a"), ("born", 5, "z", "a"))
        self.fault("row", ("died", 5, "a"), ("born", 0, "z", "a"))
        self.fault("parent", ("died", 5, "a"), ("born", 6, "z", "a"))
        self.fault("young", ("born", 5, "a", "x"), ("died", 6, "x"), ("born", 7, "x", "a"), customs=customs)
        self.fault("dead", ("died", 5, "a"), ("born", 6, "a", "b"), customs=customs)

    def test_wed_life(self):
        self.fault("life", ("wed", 5, "z", "m"))
        self.fault("life", ("born", 3, "a", "x"), ("wed", 5, "x", "m"))
        self.fault("life", ("wed", 3, "a", "x"), ("wed", 5, "x", "m"))

    def test_wed_dead(self):
        self.fault("dead", ("died", 5, "a"), ("wed", 6, "a", "m"))
        self.fault(None, ("wed", 5, "a", "m"), ("died", 5, "a"))

    def test_wed_young(self):
        customs = Customs(wed_age=16)
        self.fault("young", ("wed", 5, "b", "m"), customs=customs)
        self.fault(None, ("wed", 6, "b", "m"), customs=customs)
        self.fault(None, ("wed", 1, "b", "m"))

    def test_wed_name(self):
        self.fault("name", ("wed", 5, "a", "b"))
        self.fault("name", ("wed", 5, "a", "a"))
        self.fault("name", ("born", 3, "a", "x"), ("wed", 5, "c", "x"))
        self.fault("name", ("wed", 3, "a", "m"), ("wed", 5, "c", "m"))
        self.fault("name", ("wed", 3, "a", "m"), ("wed", 5, "a", "m"))
        self.fault(None, ("happened", 4, "war"), ("wed", 5, "a", "war"))

    def test_wed_words_in_their_order(self):
        customs = Customs(wed_age=16)
        self.fault("order", ("died", 5, "a"), ("wed", 5, "z", "b"), customs=customs)
        self.fault("life", ("wed", 1, "z", "b"), customs=customs)
        self.fault("dead", ("died", 2, "b"), ("wed", 5, "b", "a"), customs=customs)
        self.fault("young", ("wed", 5, "b", "a"), customs=customs)

    def test_a_life_weds_again_also_while_its_mate_lives(self):
        self.fault(None, ("wed", 3, "a", "m"), ("wed", 3, "a", "n"), ("wed", 4, "a", "o"))

    def test_happened_again(self):
        self.fault("again", ("happened", 3, "war"), ("happened", 5, "war"))
        self.fault("order", ("happened", 5, "war"), ("happened", 3, "war"))
        self.fault(None, ("happened", 3, "war"), ("happened", 3, "wars"), ("happened", 5, "a"), ("died", 6, "a"))

    def test_died_person_and_dead(self):
        self.fault("person", ("died", 5, "z"))
        self.fault("person", ("happened", 4, "war"), ("died", 5, "war"))
        self.fault(None, ("born", 2, "a", "x"), ("wed", 3, "a", "m"), ("died", 4, "b"), ("died", 5, "m"),
                   ("died", 6, "x"))
        for name in ("a", "x", "m"):
            self.fault("dead", ("born", 2, "a", "x"), ("wed", 2, "a", "m"), ("died", 4, name), ("died", 6, name))
        self.fault("order", ("died", 6, "a"), ("died", 4, "a"))
        self.fault(None, ("born", 5, "a", "x"), ("died", 5, "x"))

    def test_the_index_of_the_first_wrong_row(self):
        self.same(record_fault(family_lives(), [("died", 1, "a"), ("died", 2, "z"), None]), (1, "person"))


def letters(number):
    """Two letters that tell a number below 676."""
    return chr(97 + number // 26) + chr(97 + number % 26)


class TestRecord(FamilyTest):
    def test_wrong_lives_come_first_then_rows_that_are_no_sequence(self):
        for thing in (*ODD, Lives, (("a", 40, None),)):
            self.refused(BadRecord, {"index": 0, "what": "lives"}, Record, thing, None)
        for thing in (None, 1, "", "died", {}, iter(()), object()):
            self.refused(BadRecord, {"index": 0, "what": "rows"}, Record, family_lives(), thing)

    def test_attributes(self):
        lives = family_lives(Customs(2))
        record = Record(lives, ROWS)
        self.assertEqual(record.lives, lives)
        self.assertEqual(record.customs, Customs(2))
        self.same(record.rows, ROWS)
        self.same(record.persons, ("a", "b", "c", "d", "m", "e", "k", "l"))
        self.same(record.unborn, ("d", "e"))
        self.same(record.end, 7)

    def test_without_rows(self):
        for record in (Record(family_lives()), Record(family_lives(), ()), Record(family_lives(), [])):
            self.same((record.rows, record.persons, record.unborn, record.end), ((), ("a", "b", "c"), (), 0))

    def test_the_end_is_the_year_of_the_last_row(self):
        for many in range(1, 10):
            self.same(family(*ROWS[:many]).end, ROWS[many - 1][1])

    def test_rows_become_tuples_and_later_changes_have_no_effect(self):
        row = ["born", 2, "a", "d"]
        rows = [row, ["died", 3, "d"]]
        record = Record(family_lives(), rows)
        row[3] = "z"
        rows.append(("died", 4, "a"))
        self.same(record.rows, (("born", 2, "a", "d"), ("died", 3, "d")))
        self.same((record.birth("d"), record.is_alive("a")), (2, True))
        self.assertEqual(rows, [["born", 2, "a", "z"], ["died", 3, "d"], ("died", 4, "a")])

    def test_birth(self):
        record = family(*ROWS)
        self.same(tuple([record.birth(name) for name in record.persons]), (-40, -10, -30, 2, None, 4, None, None))

    def test_death_and_is_alive(self):
        record = family(*ROWS)
        deaths = tuple([record.death(name) for name in record.persons])
        self.same(deaths, (7, 2, LATE, LATE, 5, LATE, LATE, LATE))
        alive = tuple([record.is_alive(name) for name in record.persons])
        self.same(alive, (False, False, True, True, False, True, True, True))

    def test_parent_and_children(self):
        record = family(*ROWS, ("born", 8, "a", "aa"))
        parents = tuple([record.parent(name) for name in record.persons])
        self.same(parents, (None, "a", None, "a", None, "d", None, None, "a"))
        self.same(record.children("a"), ("b", "d", "aa"))
        self.same((record.children("d"), record.children("m"), record.children("c")), (("e",), (), ()))

    def test_no_person(self):
        record = family(*ROWS)
        for name in ("z", "war", *NOT_NAMES):
            for method in (record.birth, record.death, record.is_alive, record.parent, record.children):
                self.refused(NoPerson, {"name": name}, method, name)

    def test_mates(self):
        record = family(*ROWS)
        self.same((record.mates("a"), record.mates("b"), record.mates("c")), (("m", "k"), (), ("l",)))
        self.same((record.mate("a"), record.mate("b"), record.mate("c")), ("k", None, "l"))

    def test_last_death(self):
        record = family(("died", 3, "b"), ("died", 5, "a"))
        self.same(record.last_death(("b",)), 3)
        self.same(record.last_death(["a", "b"]), 5)
        self.same(record.last_death(("b", "a")), 5)
        self.same(record.last_death(("b", "a", "c")), LATE)

    def test_no_life(self):
        record = family(*ROWS)
        for name in ("z", "d", "m", "war", *NOT_NAMES):
            self.refused(NoLife, {"name": name}, record.mates, name)
            self.refused(NoLife, {"name": name}, record.mate, name)
            self.refused(NoLife, {"name": name}, record.last_death, ("a", name))
        self.refused(NoLife, {"name": "d"}, record.last_death, ["a", "d", "m"])

    def test_happened(self):
        record = family(("happened", 2, "war"), ("happened", 3, "a"))
        self.same((record.happened("war"), record.happened("a"), record.happened("b")), (2, 3, None))

    def test_a_happening_and_a_person_may_have_the_same_name(self):
        record = family(("happened", 2, "a"), ("happened", 2, "x"), ("born", 3, "a", "x"), ("died", 4, "x"))
        self.same((record.happened("x"), record.birth("x"), record.death("x")), (2, 3, 4))

    def test_until(self):
        record = family(*ROWS)
        for year, many in ((-5, 0), (0, 0), (1, 0), (2, 4), (3, 4), (4, 7), (5, 8), (6, 8), (7, 9), (LATE, 9)):
            self.assertEqual(record.until(year), family(*ROWS[:many]))
        self.same(record.rows, ROWS)

    def test_after(self):
        record = family(*ROWS[:4])
        self.assertEqual(record.after(*ROWS[4:]), family(*ROWS))
        self.assertEqual(record.after(list(ROWS[4])), family(*ROWS[:5]))
        self.assertEqual(record.after(), record)
        self.refused(BadRecord, {"index": 5, "what": "order"}, record.after, ROWS[4], ROWS[3])
        self.refused(BadRecord, {"index": 4, "what": "row"}, record.after, None)
        self.same(record.rows, ROWS[:4])

    def test_after_two_hundred_rows(self):
        rows = [("happened", 1 + at, letters(at)) for at in range(200)]
        self.assertEqual(len(family(*rows[:199]).after(rows[199])), 200)
        self.refused(BadRecord, {"index": 200, "what": "many"}, family(*rows).after, ("died", 201, "a"))

    def test_shorter(self):
        record = family(*ROWS)
        self.assertEqual(record.shorter(), family(*ROWS[:-1]))
        self.same(record.rows, ROWS)
        self.refused(NoRow, {}, family().shorter)

    def test_length_and_iteration(self):
        record = family(*ROWS)
        self.same((len(record), len(family())), (9, 0))
        self.same(tuple(record), ROWS)
        self.same(tuple(record), ROWS)

    def test_equal_if_lives_and_rows_are(self):
        self.equals_only(family(*ROWS), family(*[list(row) for row in ROWS]), family(*ROWS[:-1]), family(),
                         family(*ROWS, customs=Customs(2)), ROWS, family_lives())
        self.has_no_order(family(), family())

    def test_the_interface_stands_in_the_class(self):
        self.stands_in(Record, "end", "unborn", "birth", "death", "is_alive", "parent", "children", "mates", "mate",
                       "happened", "until", "after", "shorter", "last_death", "__eq__", "__len__", "__iter__")
        for name in ("end", "unborn"):
            self.assertIsInstance(vars(Record)[name], property)

    def test_each_beginning_of_a_record_is_a_record(self):
        for record in small_records(4):
            for year in range(-1, 11):
                rows = tuple([row for row in record.rows if row[1] <= year])
                self.assertEqual(record.until(year).rows, rows)


if __name__ == "__main__":
    unittest.main()
