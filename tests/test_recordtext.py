"""Lives and records as texts [11.1] to [11.4]."""

import unittest

from lastlife.customs import Customs
from lastlife.errors import BadCustoms, BadLives, BadRecord, BadText
from lastlife.lives import Lives
from lastlife.record import Record
from lastlife.recordtext import lives_text, person_table, read_lives, read_record, record_text
from tests.helpers import ODD, Always, FamilyTest, small_records
from tests.samples import Dice

HEAD = "customs 12 1 0 21"
A = "life a 40 -"
TEXT = f"{HEAD}\n{A}\nlife b 10 a\nwed 3 a m\nborn 5 a x\nhappened 9 war\ndied 12 a"
LIVES = Lives(Customs(12), (("a", 40, None), ("b", 10, "a")))
ROWS = (("wed", 3, "a", "m"), ("born", 5, "a", "x"), ("happened", 9, "war"), ("died", 12, "a"))


class TextTest(FamilyTest):
    def bad(self, call, text, row, what):
        self.refused(BadText, {"row": row, "what": what}, call, text)


class TestLivesText(TextTest):
    def test_the_text(self):
        self.same(lives_text(LIVES), f"{HEAD}\n{A}\nlife b 10 a")
        customs = Customs(1000, years_after=0, wed_age=7, limit=10 ** 6)
        self.same(lives_text(Lives(customs, [("zz", 10 ** 6, None)])), "customs 1000 0 7 1000000\nlife zz 1000000 -")

    def test_back(self):
        for seed in range(60):
            lives = Dice(seed).lives()
            self.assertEqual(read_lives(lives_text(lives)), lives)
            self.assertEqual(lives_text(read_lives(lives_text(lives))), lives_text(lives))

    def test_words(self):
        for call in (read_lives, read_record):
            for thing in (*[odd for odd in ODD if not isinstance(odd, str)], Always(), b"customs 1 1 1 1", 5):
                self.bad(call, thing, 1, "text")
            for text, row, what in (
                    ("", 1, "word"), (" ", 1, "word"), ("   ", 1, "word"), (A, 1, "word"), (f"{HEAD}\n", 2, "word"),
                    (f"\n{HEAD}", 1, "word"), (f"{HEAD}\n{A}\n", 3, "word"), (f"{HEAD}\n{HEAD}", 2, "word"),
                    (f" {HEAD}", 1, "word"), (f"{HEAD}\n {A}", 2, "word"), (f"Customs{HEAD[7:]}", 1, "word"),
                    (f"{HEAD} ", 1, "count"), ("customs 12 1 0", 1, "count"), ("customs  12 1 0 21", 1, "count"),
                    ("customs 12 1  0 21", 1, "count"), ("customs", 1, "count"), (f"{HEAD}\n{A} ", 2, "count"),
                    (f"{HEAD}\nlife a 40", 2, "count"), (f"{HEAD}\nlife  a 40 -", 2, "count"), (f"{HEAD}\nlife", 2, "count"),
                    ("customs 12 1  21", 1, "number"), (f"{HEAD}\nlife a  -", 2, "number"),
                    (f"{HEAD}\nlife a x -", 2, "number"), (f"{HEAD}\nlife a 40 -\nlife b 010 a", 3, "number"),
                    (f"{HEAD}\n{A}\nlives b 10 a\nlife", 3, "word"), ("customs 12 1 0 x\nnone", 1, "number"),
                    ("customs x 1 0 21", 1, "number"), ("customs 12 x 0 21", 1, "number"), ("customs 12 1 x 21", 1, "number")):
                self.bad(call, text, row, what)

    def test_numerals(self):
        for word in ("0", "-0", "+1", "01", "1_0", "1.0", "\u0661", "-", "--1", "1-", "0x1", "1" * 21, "-" + "1" * 21, "00"):
            text = f"customs 12 1 0 {word}\n{A}"
            if word == "0":
                self.same(read_lives(text).customs.limit, 0)
            else:
                self.bad(read_lives, text, 1, "number")
                self.bad(read_record, text, 1, "number")
        for word in ("-1", "1" * 20, "-" + "1" * 20, "1000001"):
            self.refused(BadCustoms, {"what": "limit"}, read_lives, f"customs 12 1 0 {word}\n{A}")

    def test_errors_of_the_constructors(self):
        self.refused(BadCustoms, {"what": "parent_age"}, read_lives, "customs 0 -1 0 21\nlife A 3 z")
        self.refused(BadCustoms, {"what": "wed_age"}, read_lives, "customs 1 0 1001 21")
        self.refused(BadLives, {"index": 0, "what": "rows"}, read_lives, HEAD)
        for rows, index, what in (("life A 3 -", 0, "name"), ("life  3 -\n" + A, 0, "name"), (f"{A}\n{A}", 1, "double"),
                                  ("life a -1 -", 0, "age"), (f"{A}\nlife b 3 ", 1, "parent"), (f"{A}\nlife b 3 --", 1, "parent"),
                                  (f"{A}\nlife b 30 a", 1, "young"), ("life - 3 -", 0, "name"),
                                  ("\n".join(f"life {name} 3 -" for name in "abcdefg"), 0, "rows")):
            self.refused(BadLives, {"index": index, "what": what}, read_lives, f"{HEAD}\n{rows}")

    def test_bad_text_comes_first(self):
        self.bad(read_lives, "customs 0 1 0 21\nlife A 3 -\nlife b", 3, "count")
        self.bad(read_record, f"{HEAD}\nlife A 3 -\ndied 0 z\nborn", 4, "count")
        self.bad(read_lives, TEXT, 4, "word")


class TestRecordText(TextTest):
    def test_the_text(self):
        record = Record(LIVES, ROWS)
        self.same(record_text(record), TEXT)
        self.assertEqual(read_record(TEXT), record)
        self.same(record_text(Record(LIVES)), lives_text(LIVES))
        self.assertEqual(read_record(lives_text(LIVES)), Record(LIVES))

    def test_back(self):
        for record in small_records(4):
            self.assertEqual(read_record(record_text(record)), record)
        for seed in range(60):
            dice = Dice(seed)
            record = dice.record(dice.lives(), 12)
            self.assertEqual(read_record(record_text(record)), record)
            self.assertEqual(record_text(read_record(record_text(record))), record_text(record))

    def test_words(self):
        start = f"{HEAD}\n{A}"
        for rows, row, what in (
                ("dies 3 a", 3, "word"), ("died 3 a\nlife b 10 a", 4, "word"), ("died 3 a\n", 4, "word"), ("customs 12 1 0 21", 3, "word"),
                ("Died 3 a", 3, "word"), (" died 3 a", 3, "word"), ("died 3", 3, "count"), ("died 3 a ", 3, "count"),
                ("died  3 a", 3, "count"), ("died 3 a b", 3, "count"), ("happened 3", 3, "count"), ("happened 3 war x", 3, "count"),
                ("born 3 a", 3, "count"), ("born 3 a x y", 3, "count"), ("wed 3 a", 3, "count"), ("wed", 3, "count"),
                ("died x a", 3, "number"), ("died 03 a", 3, "number"), ("born a 3 x", 3, "number"), ("wed  a m", 3, "number"),
                ("happened war 3", 3, "number"), ("died 3 a\nborn 3 a\ndies", 4, "count")):
            self.bad(read_record, f"{start}\n{rows}", row, what)
        self.bad(read_record, "died 3 a", 1, "word")
        self.refused(BadLives, {"index": 0, "what": "rows"}, read_record, f"{HEAD}\ndied 3 a")

    def test_errors_of_the_constructors(self):
        start = f"{HEAD}\n{A}"
        self.refused(BadCustoms, {"what": "limit"}, read_record, "customs 12 1 0 -1\nlife A 3 -\ndied 0 z")
        self.refused(BadLives, {"index": 0, "what": "name"}, read_record, f"{HEAD}\nlife A 3 -\ndied 0 z")
        for rows, index, what in (("died 0 a", 0, "row"), ("died -3 a", 0, "row"), ("died 3 A", 0, "row"), ("died 3 ", 0, "row"),
                                  ("died 3 z", 0, "person"), ("died 3 a\ndied 3 a", 1, "order"), ("died 3 a\ndied 4 a", 1, "dead"),
                                  ("happened 3 war\nhappened 2 fire", 1, "order"), ("born 3 z x", 0, "parent"),
                                  ("died 3 a\nborn 5 a x", 1, "dead"), ("wed 3 a a", 0, "name"), (f"died {10 ** 9 + 1} a", 0, "row")):
            self.refused(BadRecord, {"index": index, "what": what}, read_record, f"{start}\n{rows}")


class TestPersonTable(FamilyTest):
    def test_the_example(self):
        self.same(person_table(read_record("customs 12 1 0 21\nlife a 40 -\nborn 3 a x")),
                  ("a                -40           - -", "x                  3           - a"))

    def test_all_kinds_of_persons(self):
        record = Record(LIVES, ROWS).after(("born", 10 ** 9, "x", "abcdefgh"), ("died", 10 ** 9, "m"))
        self.same(person_table(record), ("a                -40          12 -", "b                -10           - a",
                                         "m                  -  1000000000 -", "x                  5           - a",
                                         "abcdefgh  1000000000           - x"))
        old = Record(Lives(Customs(), (("a", 0, None), ("b", 0, None))))
        self.same(person_table(old), ("a                  0           - -", "b                  0           - -"))


if __name__ == "__main__":
    unittest.main()
