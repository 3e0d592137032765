"""Formulas over the times of instants [5.12] [5.13]."""

import unittest

from lastlife.errors import BadFormula, BadTimes
from lastlife.formulas import formula_choices, formula_holds
from lastlife.trees import Impossible, greatest_of, possible, possible_fault
from tests.helpers import NOT_WHOLE, ODD, Always, FamilyTest
from tests.systems_samples import BIG

F = ("all", ("some", ("link", 1, 0, 3), ("link", 0, 1, -8)), ("link", 0, 1, -5))
LINK = ("link", 0, 1, 2)
YES, NO = ("all",), ("some",)


def within(many, formula):
    """The formula within so many others."""
    for _ in range(many):
        formula = ("all", formula)
    return formula


def of_choices(*counts):
    """A formula with the product of these choices."""
    return ("all", *[("some", *[LINK] * count) for count in counts])


class TestHolds(FamilyTest):
    def test_the_example(self):
        self.same((formula_holds(F, (0, 6)), formula_choices(2, F)), (False, 2))
        self.same([formula_holds(F, (0, time)) for time in (2, 3, 5, 7, 8, 9)],
                  [False, False, False, False, True, True])

    def test_words(self):
        for formula, wanted in (
                (("link", 0, 1, 2), True), (["link", 0, 1, 1], False), (("link", 1, 0, -2), True),
                (("link", 1, 0, -3), False), (YES, True), (NO, False), (("not", YES), False), (("not", NO), True),
                (("not", ("not", LINK)), True), (("not", LINK), False), (("all", LINK, NO), False),
                (["some", NO, LINK], True), (["some", LINK, NO], True), (("some", NO, ("not", LINK)), False), (("all", LINK, LINK), True),
                (("not", ("some", NO, ("all", ("not", LINK)))), True), (("link", 0, 0, -1), False),
                (("link", 0, 1, BIG), True)):
            self.same(formula_holds(formula, (5, 3)), wanted)
            self.same(formula_holds(formula, [5 + BIG, 3 + BIG]), wanted)

    def test_times(self):
        for thing in (*[odd for odd in ODD if odd != [1]], 5, "ab", (), [0] * 13, (1, True), (1, None), (1, 2.0), {0: 1}, Always()):
            self.refused(BadTimes, {}, formula_holds, None, thing)
        self.same(formula_holds(YES, [0] * 12), True)
        self.refused(BadFormula, {"what": "instant"}, formula_holds, ("link", 0, 1, 5), (1,))
        self.refused(BadFormula, {"what": "form"}, formula_holds, None, (1,))


class TestChoices(FamilyTest):
    def test_choices(self):
        for formula, wanted in (
                (LINK, 1), (YES, 1), (NO, 1), (("not", LINK), 1), (("some", LINK, LINK), 2), (("all", LINK, LINK), 1),
                (("some", ("some",), ("some",)), 2), (of_choices(2, 3), 6), (("some", of_choices(2, 3), LINK), 7),
                (("not", ("all", LINK, LINK, LINK)), 3), (("not", ("some", LINK, LINK)), 1), (("not", NO), 1),
                (("not", YES), 1), (("not", ("not", ("some", LINK, LINK))), 2), (of_choices(4, 4, 4), 64),
                (("not", ("all", ("some", LINK, LINK), ("not", ("some", LINK, LINK)))), 3),
                (("not", ("some", ("all", LINK, LINK), ("all", LINK, LINK, LINK))), 6),
                (["not", ["all", ["link", 0, 1, 2]]], 1), (of_choices(64), 64)):
            self.same(formula_choices(2, formula), wanted)

    def test_too_many_choices(self):
        for formula in (of_choices(65), of_choices(5, 13), ("not", ("all", *[LINK] * 65)), of_choices(2, 2, 2, 2, 2, 2, 2)):
            self.refused(BadFormula, {"what": "choices"}, formula_choices, 2, formula)


class TestBadFormulas(FamilyTest):
    def bad(self, what, formula, count=2):
        self.refused(BadFormula, {"what": what}, formula_choices, count, formula)
        self.refused(BadFormula, {"what": what}, possible, count, formula)
        self.refused(BadFormula, {"what": what}, possible_fault, count, formula, Impossible(("ring",)))
        self.refused(BadFormula, {"what": what}, greatest_of, count, formula, None, None)

    def test_count(self):
        for thing in (0, 13, -1, *NOT_WHOLE):
            self.bad("count", None, thing)
        for count in (1, 12):
            self.same(formula_choices(count, YES), 1)

    def test_deep(self):
        self.same(formula_choices(2, within(12, LINK)), 1)
        self.bad("deep", within(13, LINK))
        self.bad("deep", within(13, None))
        self.bad("deep", within(5000, LINK))
        endless = ["all"]
        endless.append(endless)
        self.bad("deep", endless)
        self.same(formula_choices(2, within(11, ("not", LINK))), 1)
        self.bad("deep", within(11, ("not", ("not", LINK))))

    def test_many(self):
        self.same(formula_choices(2, ("all", *[LINK] * 99)), 1)
        self.bad("many", ("all", *[LINK] * 100))
        self.bad("many", ("all", *[YES] * 99, None))
        self.bad("form", ("all", *[YES] * 98, None))
        self.bad("many", ("some", *[("all", *[LINK] * 32)] * 3, LINK))

    def test_form(self):
        for thing in (*ODD, 5, "link", "all", (5,), (True,), (None, 1), ("links", 0, 1, 2), ("link", 0, 1), ("not",),
                      ("link", 0, 1, 2, 3), ("link", 0, 1, True), ("link", 0, None, 1), ("link", 1.0, 0, 1), ("ALL",),
                      ("not", LINK, LINK), ("link",), {"all": 1}, (["all"],), ("",), Always(), (Always(), 0, 1, 2)):
            self.bad("form", thing)
            self.bad("form", ("some", LINK, thing))

    def test_instant(self):
        for thing in (("link", 2, 0, 1), ("link", 0, -1, 1), ["link", BIG, 0, 1]):
            self.bad("instant", thing)
            self.bad("instant", ("not", thing))
        self.bad("form", ("link", 5, 5, None))

    def test_from_left_to_right_each_formula_ahead_of_its_parts(self):
        far = ("link", 9, 9, 9)
        self.bad("instant", ("all", far, None))
        self.bad("form", ("all", None, far))
        self.bad("form", ("not", None, far))
        self.bad("instant", ("all", ("some", LINK, far), None))
        self.bad("instant", ("all", far, within(13, LINK)))
        self.bad("deep", ("all", within(12, LINK), far))
        self.bad("form", ("all", None, *[LINK] * 100))
        self.bad("many", ("all", *[LINK] * 100, None))
        self.bad("form", ("all", of_choices(65), None))
        self.bad("deep", ("all", of_choices(65), within(12, LINK)))
        # The hundred-and-first formula that is met stands too deep as well.
        self.bad("deep", ("all", *[LINK] * 87, within(12, LINK)))
        self.bad("deep", within(13, ("all", *[LINK] * 100)))


if __name__ == "__main__":
    unittest.main()
