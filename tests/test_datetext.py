"""Kins, dates, takers and conditions from their texts [11.5]."""

import unittest

from lastlife.conditions import By, Unless
from lastlife.dates import Close, Death, Earlier, First, Happening, Last, Later, Plus, Survivor, Year
from lastlife.datetext import parse_condition, parse_date, parse_kin, parse_taker
from lastlife.errors import BadText
from lastlife.kin import Children, Grandchildren
from lastlife.takers import FirstReaching, Living, Mate, Named, Reaching, Told, Whole
from tests.helpers import ODD, Always, FamilyTest
from tests.samples import Dice
from tests.test_limits import LargeDice

KIN, GRAND = Children("a"), Grandchildren("abcdefgh")
DATES = (
    Year(5), Year(0), Year(-5), Year(10 ** 6), Year(-10 ** 6), Death("a"), Survivor("abcdefgh"), Happening("war"), Happening("of"),
    Death("of"), Close(KIN), Close(GRAND), First(KIN, "birth"), First(KIN, "death"), First(KIN, 21), First(KIN, 0),
    First(KIN, 10 ** 6), Last(KIN, "death"), Last(KIN, 0), Last(Children("age"), 21), Close(Children("of")),
    Death("a") + 0, Year(-5) + 5, Death("a") + 1 + 10 ** 6, Death("a") | Year(5), Death("a") & Year(5),
    Earlier(Death("a"), Death("b"), Death("c"), Death("d")), Later(Year(1), Year(2) + 3, Year(4) | Year(5)),
    Later(Earlier(Plus(Close(KIN), 3), Last(KIN, 7)), First(KIN, "birth")) + 9, Year(1) + 1 + 1 + 1 + 1 + 1, Happening("plus") + 3,
)
TAKERS = (Named("a"), Mate("a"), Named("of"), Mate("of"), Told(KIN), Whole(GRAND), Living(KIN), Reaching(KIN, 25), Reaching(GRAND, 0),
          FirstReaching(KIN, 25), FirstReaching(GRAND, 10 ** 6))
NO_TEXTS = [odd for odd in ODD if not isinstance(odd, str)] + [5, b"year 5", Always(), Year(5)]


class ParseTest(FamilyTest):
    def reads(self, call, thing):
        """The text of the thing is read back, and a text that is changed in one place is none or another one."""
        text = str(thing)
        found = call(text)
        self.assertEqual(found, thing)
        self.assertEqual(str(found), text)
        for at in range(len(text) + 1):
            for other in (text[:at] + text[at + 1:], text[:at] + " " + text[at:], text[:at] + "(" + text[at:],
                          text[:at] + "0" + text[at:], text[:at] + "," + text[at:], text[:at] + ")" + text[at + 1:]):
                try:
                    self.assertEqual(str(call(other)), other)
                except BadText:
                    continue

    def none(self, call, what, *texts):
        for text in texts:
            self.refused(BadText, {"row": 1, "what": what}, call, text)


class TestKin(ParseTest):
    def test_back(self):
        for kin in (KIN, GRAND, Children("of")):
            self.reads(parse_kin, kin)

    def test_no_kins(self):
        self.none(parse_kin, "kin", "", "children", "children of", "children of ", "children of A", "Children of a", "child of a",
                  "children  of a", " children of a", "children of a ", "children of a b", "grand children of a", "children a of",
                  "children of abcdefghi", "year 5", *NO_TEXTS)


class TestDates(ParseTest):
    def test_the_example(self):
        found = parse_date("later(death of a, (first age 21 of children of a plus 5))")
        self.assertEqual(found, Later(Death("a"), First(Children("a"), 21) + 5))

    def test_back(self):
        for date in DATES:
            self.reads(parse_date, date)

    def test_by_chance(self):
        for seed in range(200):
            dice = Dice(seed)
            date = dice.date("abcd")
            self.assertEqual(parse_date(str(date)), date)
            dice = LargeDice(seed)
            date = dice.date_of("abcd", 4)
            self.assertEqual(parse_date(str(date)), date)

    def test_no_dates(self):
        self.none(parse_date, "date", "", " ", "year", "year ", "year 05", "year -0", "year +5", "year 1000001", "year -1000001",
                  "year 5 ", " year 5", "year  5", "year five", "Year 5", "year 5\n", "year \u0665", f"year {'9' * 21}", "death", "death of",
                  "death of A", "death a", "death of children of a", "survivor of", "happening", "happening War", "happening of war",
                  "close of a", "close of children", "close children of a", "first of children of a", "first birth children of a",
                  "first birth of grandchildren of a", "first death of a", "first age of children of a", "first age -1 of children of a",
                  "first age 1000001 of children of a", "first 21 of children of a", "first wedding of children of a",
                  "last birth of children of a", "last age 21 of grandchildren of a", "last of children of a", "last 3 of children of a",
                  "first age birth of children of a", "first birth 3 of children of a", "life a", "children of a", *NO_TEXTS)

    def test_no_dates_with_inner_ones(self):
        self.none(parse_date, "date", "()", "(", ")", "(year 5)", "year 5 plus 3", "(year 5 plus 3", "year 5 plus 3)", "(year 5 plus)",
                  "(year 5 plus -1)", "(year 5 plus 03)", "(year 5 plus 1000001)", "(year 5  plus 3)", "( year 5 plus 3)", "(year 5 plus 3 )",
                  "(year 5 plus 3) ", "((year 5 plus 3))", "(year 5 plus 3 plus 4)", "(plus 3)", "( plus 3)", "earlier", "earlier()",
                  "earlier(year 5)", "earlier(year 5,year 6)", "earlier(year 5, year 6", "earlier(year 5, year 6))", "earlier (year 5, year 6)",
                  "earlier(year 5, year 6, year 7, year 8, year 9)", "earlier(year 5, )", "earlier(, year 5)", "earlier(year 5,  year 6)",
                  "later(year 5, year)", "later((year 5, year 6)", "later(year 5), year 6)", "first(year 5, year 6)", "Later(year 5, year 6)",
                  "earlier(year 5, year 6) plus 3", "by(year 5, year 6)", "earlierlater(year 5, year 6)")

    def test_depths(self):
        text = "year 5"
        for depth in range(2, 9):
            text = f"({text} plus 1)"
            if depth <= 6:
                self.assertEqual(parse_date(text).depth, depth)
            else:
                self.none(parse_date, "date", text)
        text = "year 5"
        for depth in range(2, 9):
            text = f"later(year 1, {text})"
            if depth <= 6:
                self.assertEqual(parse_date(text).depth, depth)
            else:
                self.none(parse_date, "date", text)

    def test_thousands_of_brackets(self):
        many = 20000
        for text in ("(" * many, ")" * many, "(" * many + ")" * many, "(" * many + "year 5" + " plus 1)" * many, "earlier(" * many,
                     "later(" * many + "year 5" + ", year 5)" * many, "later(" + "(), " * many + ")", "(" * many + " plus 1)"):
            for call, what in ((parse_date, "date"), (parse_condition, "condition"), (parse_taker, "taker"), (parse_kin, "kin")):
                self.refused(BadText, {"row": 1, "what": what}, self.quick, call, text)
            self.refused(BadText, {"row": 1, "what": "condition"}, self.quick, parse_condition, f"by({text}, year 5)")


class TestTakers(ParseTest):
    def test_back(self):
        for taker in TAKERS:
            self.reads(parse_taker, taker)

    def test_no_takers(self):
        self.none(parse_taker, "taker", "", " ", "life", "life ", "life A", "life of a", "life a ", "mate", "mate a", "mate of", "mate of A",
                  "mate of children of a", "told", "told a", "told children", "told children of A", "told  children of a", "whole", "wholes children of a",
                  "living of children of a", "reaching children of a", "reaching -1 children of a", "reaching 025 children of a",
                  "reaching 1000001 children of a", "reaching 25 25 children of a", "first 25 children of a", "first reaching children of a",
                  "first  reaching 25 children of a", "reaching first 25 children of a", "last reaching 25 children of a", "children of a",
                  " told children of a", "death of a", *NO_TEXTS)


class TestConditions(ParseTest):
    def test_back(self):
        for at, one in enumerate(DATES):
            other = DATES[-at - 1]
            for condition in (By(one, other), Unless(one, other)):
                self.assertEqual(parse_condition(str(condition)), condition)
        for condition in (By(Year(5), Death("a")), Unless(Later(Death("a"), Year(3)), Death("b") + 4)):
            self.reads(parse_condition, condition)

    def test_no_conditions(self):
        self.none(parse_condition, "condition", "", "by", "by()", "by(year 5)", "by(year 5, year 6", "by(year 5,year 6)", "by(year 5, year 6, year 7)",
                  "by (year 5, year 6)", "By(year 5, year 6)", "until(year 5, year 6)", "unless(year 5, )", "unless(, year 5)", " by(year 5, year 6)",
                  "by(year 5, year 6) ", "by(year 5, year 6))", "by((year 5, year 6)", "by(by(year 5, year 6), year 7)", "year 5",
                  "by(year 5, life a)", "by(year 5), (year 6)", "unlessby(year 5, year 6)", *NO_TEXTS)


if __name__ == "__main__":
    unittest.main()
