"""Trees, and the greatest differences under formulas [5.14] to [5.16]."""

import random
import unittest

from lastlife.errors import NoInstant
from lastlife.formulas import formula_choices, formula_holds
from lastlife.solving import Kept
from lastlife.trees import EndlessOf, GreatestOf, Impossible, greatest_of, possible, possible_fault
from tests.helpers import NOT_WHOLE, Always, FamilyTest
from tests.systems_samples import BIG, small_times

F = ("all", ("some", ("link", 1, 0, 3), ("link", 0, 1, -8)), ("link", 0, 1, -5))
BELOW, ABOVE = ("link", 1, 0, 3), ("link", 0, 1, -8)
BETWEEN = ("all", ("some", BELOW, ABOVE), ("link", 0, 1, -4), ("link", 1, 0, 7))
YES, NO = ("all",), ("some",)


def made(dice, count, depth):
    """A formula by chance."""
    word = dice.choice(("link", "link", "all", "some", "not") if depth < 4 else ("link",))
    if word == "link":
        return ("link", dice.randrange(count), dice.randrange(count), dice.randint(-3, 3))
    parts = 1 if word == "not" else dice.choice((0, 1, 2, 2, 3))
    return (word, *[made(dice, count, depth + 1) for _ in range(parts)])


def sample_formulas(many, count, seed):
    dice = random.Random(seed)
    found = []
    while len(found) < many:
        formula = ("all", *[made(dice, count, 0) for _ in range(dice.choice((1, 2, 4, 6)))])
        try:
            formula_choices(count, formula)
        except ValueError:
            continue
        found.append(formula)
    return found


class TestPossible(FamilyTest):
    def test_answers_are_right_and_small_times_agree(self):
        kinds = {Kept: 0, Impossible: 0}
        for formula in sample_formulas(300, 3, 1):
            answer = self.quick(possible, 3, formula)
            kinds[type(answer)] += 1
            self.assertIsNone(possible_fault(3, formula, answer))
            if isinstance(answer, Kept):
                self.assertIsInstance(answer.times, tuple)
                self.assertTrue(formula_holds(formula, answer.times))
            else:
                self.assertFalse(any(formula_holds(formula, times) for times in small_times(3, 6)))
        self.assertGreater(min(kinds.values()), 40)

    def test_trees(self):
        self.assertEqual(possible(2, NO).tree, ("some",))
        self.assertEqual(possible(1, ("link", 0, 0, -1)).tree, ("ring", 0))
        self.assertEqual(possible(1, ("not", ("link", 0, 0, 0))).tree, ("ring", 0))
        found = possible(2, BETWEEN)
        self.assertIsNone(possible_fault(2, BETWEEN, found))
        self.assertEqual(found.tree[0], "some")
        self.assertEqual(len(found.tree), 3)

    def test_the_largest_formulas(self):
        many = ("all", *[("some", BELOW, ABOVE) for _ in range(6)], ("link", 0, 1, -4), ("link", 1, 0, 7))
        self.assertEqual(formula_choices(2, many), 64)
        answer = self.quick(possible, 2, many)
        self.assertIsNone(possible_fault(2, many, answer))
        links = ("all", *[("link", (at + 1) % 12, at % 12, BIG - at) for at in range(99)])
        self.assertIsInstance(self.quick(possible, 12, links), Kept)


class TestPossibleFault(FamilyTest):
    def test_kept(self):
        for times, what in (((0, 8), None), ([0, 9], None), ((0,), "count"), ((0, 8, 9), "count"), ((0, 6), "formula"),
                            ((0, 3), "formula")):
            self.assertEqual(possible_fault(2, F, Kept(times)), what)
        self.assertEqual(possible_fault(2, NO, Kept((0, 0))), "formula")

    def test_impossible(self):
        # The links are first one of the two choices, then number 1 and number 2.
        right = ("some", ("ring", 0, 1), ("ring", 0, 2))
        for tree, what in (
                (right, None), (["some", ["ring", 1, 0], ("ring", 2, 0)], None),
                (("some", ("ring", 0, 1, 0, 1), ("ring", 0, 2)), None), ((), "tree"), (None, "tree"), ("some", "tree"), ((Always(), 0), "tree"),
                (("all",), "tree"), ((("some",),), "tree"), (("some", None, ("ring", 0, 2)), "tree"),
                (("some", ("ring", 0, 1), ()), "tree"), (("ring",), "empty"), (("some", ("ring",), None), "empty"),
                (("ring", 0), "index"), (("some", ("ring", 3), ("ring", 0, 2)), "index"),
                (("some", ("ring", 0, True), ("ring", 0, 2)), "index"), (("some", ("ring", 0), ("ring", 0, 2)), "joint"),
                (("some", ("ring", 0, 1), ("ring", 0, 1)), "joint"), (("some", ("ring", 0, 1), ("ring", 1, 2)), "sum"),
                (("some", ("ring", 0, 1)), "branches"), (("some",), "branches"), ((*right, ("ring", 0, 1)), "branches"),
                (("some", ("some",), ("ring", 0, 2)), "branches"), (("some", ("some", right, right), None), "branches")):
            self.assertEqual(possible_fault(2, BETWEEN, Impossible(tree)), what, tree)

    def test_it_is_read_only_as_far_as_the_formula_leads(self):
        self.assertIsNone(possible_fault(2, ("all", NO, F), Impossible(("some",))))
        self.assertEqual(possible_fault(2, ("all", BELOW, ("link", 0, 1, -3)), Impossible(("ring", 0, 1))), "sum")
        self.assertIsNone(possible_fault(2, ("all", BELOW, ("link", 0, 1, -4)), Impossible(("ring", 0, 1))))
        self.assertEqual(possible_fault(2, YES, Impossible(("some",))), "branches")
        self.assertEqual(possible_fault(2, YES, Impossible(("ring", 0))), "index")
        self.assertEqual(possible_fault(2, ("some",), Impossible(("ring",))), "empty")

    def test_how_formulas_are_read(self):
        for formula, tree in (
                (("not", ("some", ("link", 0, 1, 2), ("link", 1, 0, 2))), ("ring", 0, 1)),
                (("not", ("all", YES)), ("some", ("some",))),
                (("all", ("link", 0, 1, -1), ("not", ("not", ("link", 1, 0, 0)))), ("ring", 1, 0)),
                (("all", ("some", ("link", 0, 1, -1)), ("link", 1, 0, 0)), ("some", ("ring", 0, 1))),
                (("all", ("link", 1, 0, 0), ("some", ("link", 0, 1, -1))), ("some", ("ring", 0, 1))),
                (("some", NO, ("all", NO, YES)), ("some", ("some",), ("some",)))):
            self.assertIsNone(possible_fault(2, formula, Impossible(tree)), formula)


class TestGreatestOf(FamilyTest):
    def test_the_example(self):
        self.same((greatest_of(2, F, 0, 1).amount, greatest_of(2, F, 1, 0).apart), (-8, (1,)))

    def check(self, count, formula, one, other):
        answer = self.quick(greatest_of, count, formula, one, other)
        if isinstance(answer, GreatestOf):
            self.assertTrue(formula_holds(formula, answer.times))
            self.assertEqual(answer.times[one] - answer.times[other], answer.amount)
            more = ("all", formula, ("link", other, one, -answer.amount - 1))
            self.assertIsNone(possible_fault(count, more, Impossible(answer.tree)))
        elif isinstance(answer, EndlessOf):
            self.assertEqual(list(answer.apart), sorted(set(answer.apart)))
            self.assertIn(one, answer.apart)
            self.assertNotIn(other, answer.apart)
            for much in (0, 1, 7, 10 ** 9):
                raised = [time + much * (at in answer.apart) for at, time in enumerate(answer.times)]
                self.assertTrue(formula_holds(formula, raised))
        else:
            self.assertIsInstance(answer, Impossible)
            self.assertIsNone(possible_fault(count, formula, answer))
        return answer

    def test_answers_are_right(self):
        kinds = {GreatestOf: 0, EndlessOf: 0, Impossible: 0}
        for formula in sample_formulas(150, 3, 2):
            answer = self.check(3, formula, 2, 0)
            kinds[type(answer)] += 1
            if isinstance(answer, GreatestOf) and answer.amount < 5:
                times = [times for times in small_times(3, 8) if formula_holds(formula, times)]
                self.assertEqual(max([row[2] - row[0] for row in times], default=answer.amount), answer.amount)
        self.assertGreater(min(kinds.values()), 15)

    def test_edges(self):
        self.assertEqual(self.check(1, YES, 0, 0).amount, 0)
        self.assertIsInstance(self.check(2, NO, 0, 1), Impossible)
        self.assertIsInstance(self.check(2, BETWEEN, 0, 1), Impossible)
        self.assertIsInstance(self.check(2, YES, 0, 1), EndlessOf)
        self.assertEqual(self.check(2, ("some", ("link", 0, 1, -BIG), ("link", 0, 1, BIG)), 0, 1).amount, BIG)
        self.assertIsInstance(self.check(2, ("some", ("link", 0, 1, 5), ("link", 1, 0, 5)), 0, 1), EndlessOf)

    def test_a_formula_that_is_as_deep_and_as_long_as_can_be(self):
        deep = ("link", 0, 1, 4)
        for _ in range(12):
            deep = ("all", deep)
        self.assertEqual(greatest_of(2, deep, 0, 1).amount, 4)
        self.assertEqual(greatest_of(2, ("all", *[("link", 0, 1, 4)] * 99), 0, 1).amount, 4)

    def test_no_instant(self):
        for thing in (2, -1, *NOT_WHOLE):
            self.refused(NoInstant, {"instant": thing}, greatest_of, 2, NO, thing, None)
            self.refused(NoInstant, {"instant": thing}, greatest_of, 2, NO, 0, thing)


if __name__ == "__main__":
    unittest.main()
