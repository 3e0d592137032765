"""Lives [1.3]."""

import unittest

from lastlife.customs import Customs
from lastlife.errors import BadLives, NoLife
from lastlife.lives import Lives
from tests.helpers import NOT_NAMES, NOT_WHOLE, ODD, FamilyTest

ROWS = (("a", 40, None), ("b", 10, "a"), ("c", 30, None))


class TestLives(FamilyTest):
    def bad(self, index, what, rows, customs=None):
        self.refused(BadLives, {"index": index, "what": what}, Lives, customs or Customs(), rows)

    def test_attributes_and_properties(self):
        customs = Customs(12)
        lives = Lives(customs, ROWS)
        self.assertEqual(lives.customs, customs)
        self.same(lives.rows, ROWS)
        self.same(lives.names, ("a", "b", "c"))

    def test_rows_are_lists_or_tuples(self):
        self.same(Lives(Customs(), [["a", 40, None], ("b", 10, "a"), ["c", 30, None]]).rows, ROWS)

    def test_a_list_that_is_changed_afterwards_has_no_effect(self):
        row = ["a", 40, None]
        rows = [row, ("b", 10, "a")]
        lives = Lives(Customs(), rows)
        row[1] = 50
        rows.pop()
        self.same(lives.rows, ROWS[:2])
        self.same(lives.age("a"), 40)
        self.assertEqual(row, ["a", 50, None])

    def test_length_and_iteration(self):
        lives = Lives(Customs(), ROWS)
        self.same(len(lives), 3)
        self.same(tuple(lives), ROWS)
        self.same(tuple(lives), ROWS)

    def test_age_and_parent(self):
        lives = Lives(Customs(), ROWS)
        self.same((lives.age("a"), lives.age("b"), lives.age("c")), (40, 10, 30))
        self.same((lives.parent("a"), lives.parent("b"), lives.parent("c")), (None, "a", None))

    def test_no_life_of_this_name(self):
        lives = Lives(Customs(), ROWS)
        for name in ("d", "ab", *NOT_NAMES):
            self.refused(NoLife, {"name": name}, lives.age, name)
            self.refused(NoLife, {"name": name}, lives.parent, name)

    def test_customs_come_first(self):
        for thing in (*ODD, Customs, 1):
            self.refused(BadLives, {"index": 0, "what": "customs"}, Lives, thing, ())

    def test_one_to_six_rows(self):
        six = [(name, 1, None) for name in "abcdef"]
        self.same(len(Lives(Customs(), six)), 6)
        self.same(len(Lives(Customs(), six[:1])), 1)
        for rows in ((), [], [*six, ("g", 1, None)], [*six, None], "abc", None, {"a": 1}, 3, iter(six)):
            self.bad(0, "rows", rows)

    def test_row(self):
        for thing in (None, 1, "abc", ("a", 40), ("a", 40, None, None), [], {1: 2, 2: 3, 3: 4}):
            self.bad(1, "row", [("z", 1, None), thing])

    def test_name(self):
        for thing in NOT_NAMES:
            self.bad(0, "name", [(thing, 40, None)])

    def test_double(self):
        self.bad(2, "double", [("a", 40, None), ("b", 10, "a"), ("a", 40, None)])

    def test_age(self):
        for age in (0, 1000000):
            self.same(Lives(Customs(), [("a", age, None)]).age("a"), age)
        for age in (-1, 1000001, *NOT_WHOLE):
            self.bad(0, "age", [("a", age, None)])

    def test_parent(self):
        for parent in ("b", "d", *[thing for thing in NOT_NAMES if thing is not None]):
            self.bad(1, "parent", [("a", 40, None), ("b", 10, parent), ("d", 90, None)])

    def test_young(self):
        customs = Customs(12)
        self.same(len(Lives(customs, [("a", 40, None), ("b", 28, "a")])), 2)
        self.bad(1, "young", [("a", 40, None), ("b", 29, "a")], customs)
        self.bad(1, "young", [("a", 40, None), ("b", 40, "a")], Customs())
        self.same(len(Lives(Customs(), [("a", 40, None), ("b", 39, "a")])), 2)

    def test_the_order_of_the_words(self):
        first = ("a", 40, None)
        self.bad(1, "row", [first, ("A", 41, "x", 1), ("a", 1, None)])
        self.bad(1, "name", [first, ("A", -1, "x")])
        self.bad(1, "double", [first, ("a", -1, "x")])
        self.bad(1, "age", [first, ("b", -1, "x")])
        self.bad(1, "parent", [first, ("b", 40, "x")])
        self.bad(1, "young", [first, ("b", 40, "a"), None])

    def test_equal_if_customs_and_rows_are(self):
        self.equals_only(Lives(Customs(), ROWS), Lives(Customs(), [list(row) for row in ROWS]),
                         Lives(Customs(2), ROWS), Lives(Customs(), ROWS[:2]), ROWS,
                         Lives(Customs(), (ROWS[0], ROWS[2], ROWS[1])))
        self.stands_in(Lives, "names", "age", "parent", "__eq__", "__len__", "__iter__")
        self.assertIsInstance(vars(Lives)["names"], property)
        self.has_no_order(Lives(Customs(), ROWS), Lives(Customs(), ROWS))


if __name__ == "__main__":
    unittest.main()
