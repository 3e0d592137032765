"""Deeds as texts [11.6]."""

import unittest

from lastlife.alike import differing, parting
from lastlife.conditions import By, Unless
from lastlife.dates import Close, Death, Earlier, Happening, Survivor, Year
from lastlife.deed import Deed
from lastlife.deedtext import deed_text, read_deed
from lastlife.errors import BadDeed, BadGift, BadText
from lastlife.gifts import Gift
from lastlife.kin import Children
from lastlife.mends import least_mends
from lastlife.reach import number
from lastlife.record import Record
from lastlife.recordtext import read_lives, read_record, lives_text, record_text
from lastlife.takers import Living, Mate, Named, Reaching
from lastlife.waiting import state_at
from tests.helpers import ODD, Always, FamilyTest
from tests.samples import Dice
from tests.test_limits import LargeDice

KIN = Children("a")
FARM = Gift("farm", Reaching(KIN, 21), Close(KIN), By(Death("a"), Happening("war")), Unless(Year(-5), Death("b")),
            until=Survivor("a") | Year(50), part=(2, 6))
MILL = Gift("mill", Mate("a"), Death("a") + 3, over="farm", until=Death("b"))
FIELD = Gift("field", Living(KIN), Earlier(Death("a"), Year(5)), part=(1, 2))
DEED = Deed(FARM, FIELD, MILL)
TEXT = """gift farm
to reaching 21 children of a
on close of children of a
if by(death of a, happening war)
if unless(year -5, death of b)
until earlier(survivor of a, year 50)
part 1 3
gift field
to living children of a
on earlier(death of a, year 5)
part 1 2
gift mill
to mate of a
on (death of a plus 3)
over farm
until death of b"""


class TestDeedText(FamilyTest):
    def test_the_text(self):
        self.same(deed_text(DEED), TEXT)
        self.assertEqual(read_deed(TEXT), DEED)

    def test_the_example(self):
        text = "gift farm\nto reaching 21 children of a\non close of children of a\npart 1 2"
        self.assertEqual(deed_text(read_deed(text)), text)
        self.refused(BadText, {"row": 2, "what": "taker"}, read_deed, "gift farm\nto children of a")
        self.refused(BadText, {"row": 3, "what": "word"}, read_deed, "gift farm\nto life a")

    def test_back_by_chance(self):
        for seed in range(150):
            for dice in (Dice(seed), LargeDice(seed)):
                lives = dice.lives()
                deed = dice.deed(lives)
                self.assertEqual(read_deed(deed_text(deed)), deed)
                self.assertEqual(deed_text(read_deed(deed_text(deed))), deed_text(deed))

    def test_what_is_read_back_answers_as_what_was_written(self):
        for seed in range(40):
            dice = Dice(seed)
            lives = dice.lives()
            deed, record = dice.deed(lives), dice.record(lives)
            other, told = read_deed(deed_text(deed)), read_record(record_text(record))
            for name in deed.names:
                self.assertEqual(other.takers(name, told), deed.takers(name, record))
                self.assertEqual(number(other, name, told), number(deed, name, record))
                self.assertEqual(state_at(other, name, told), state_at(deed, name, record))
            read = read_lives(lives_text(lives))
            self.assertEqual(differing(other, deed, read), ())
            third = dice.deed(lives, 1)
            parts, others = parting(deed, "f", third, "f", lives), parting(other, "f", third, "f", read)
            self.assertEqual(parts if parts is None else len(parts), others if others is None else len(others))
            pool = [("within", deed.names[0], 3)]
            self.assertEqual([mend.deed for mend in least_mends(other, read, pool)],
                             [mend.deed for mend in least_mends(deed, lives, pool)])

    def test_parts(self):
        start = "gift farm\nto life a\non year 5"
        self.assertEqual(read_deed(start), Deed(Gift("farm", Named("a"), Year(5))))
        self.assertEqual(deed_text(read_deed(start)), f"{start}\npart 1 1")
        self.assertEqual(read_deed(f"{start}\npart 3 6")["farm"].part, (1, 2))
        over = f"{start}\ngift mill\nto life a\non year 5\nover farm"
        for more in ("", "\npart 1 1", "\npart 7 7"):
            self.assertEqual(read_deed(over + more)["mill"].part, (1, 1))


class TestWords(FamilyTest):
    START = "gift farm\nto life a\non year 5"

    def bad(self, row, what, text):
        self.refused(BadText, {"row": row, "what": what}, read_deed, text)

    def test_no_texts(self):
        for thing in (*[odd for odd in ODD if not isinstance(odd, str)], 5, b"gift farm", DEED, Always()):
            self.bad(1, "text", thing)

    def test_word(self):
        for row, text in (
                (1, ""), (1, "\n"), (1, " gift farm"), (1, "to life a"), (1, "Gift farm"), (1, "gifts farm"), (2, "gift farm"),
                (2, "gift farm\n"), (2, "gift farm\ngift mill"), (2, "gift farm\non year 5"), (3, "gift farm\nto life a"),
                (3, "gift farm\nto life a\n"), (3, "gift farm\nto life a\nto life a"), (3, "gift farm\nto life a\nif by(year 5, year 6)"),
                (4, f"{self.START}\n"), (4, f"{self.START}\non year 5"), (4, f"{self.START}\nto life a"), (4, f"{self.START}\n\n"),
                (5, f"{self.START}\nover x\nif by(year 5, year 6)"), (5, f"{self.START}\nover x\nover x"),
                (5, f"{self.START}\nuntil year 5\nover x"), (5, f"{self.START}\nuntil year 5\nuntil year 5"),
                (5, f"{self.START}\nuntil year 5\nif by(year 5, year 6)"), (5, f"{self.START}\npart 1 1\npart 1 1"),
                (5, f"{self.START}\npart 1 1\nuntil year 5"), (5, f"{self.START}\npart 1 1\nover x"),
                (5, f"{self.START}\npart 1 1\nif by(year 5, year 6)"), (5, f"{self.START}\ngift mill"), (6, f"{self.START}\ngift mill\nto life a"),
                (5, f"{self.START}\ngift mill\npart 1 1")):
            self.bad(row, "word", text)

    def test_name(self):
        for name in ("", " ", " farm", "farm ", "Farm", "farm mill", "abcdefghi", "5"):
            self.bad(1, "name", f"gift {name}\nto nobody")
            self.bad(4, "name", f"{self.START}\nover {name}\nnone")
        self.bad(1, "name", "gift")
        self.bad(4, "name", f"{self.START}\nover")

    def test_taker_date_and_condition(self):
        for text in ("to", "to ", "to  life a", "to life", "to life A", "to year 5"):
            self.bad(2, "taker", f"gift farm\n{text}\nnone")
        for text in ("on", "on ", "on  year 5", "on year 05", "on life a", "on by(year 5, year 6)"):
            self.bad(3, "date", f"gift farm\nto life a\n{text}\nnone")
        for text in ("until", "until ", "until  year 5", "until year", "until war"):
            self.bad(5, "date", f"{self.START}\nif by(year 5, year 6)\n{text}\nnone")
        for text in ("if", "if ", "if  by(year 5, year 6)", "if year 5", "if by(year 5)", "if by(year 5, year 6) "):
            self.bad(4, "condition", f"{self.START}\n{text}\nnone")
        self.bad(3, "date", "gift farm\nto life a\non " + "(" * 9000)

    def test_part(self):
        for text in ("part", "part ", "part 1", "part 1 ", "part  1 1", "part 1  1", "part 1 1 1", "part 1/2", "part 01 2", "part 1 +2", "part a b",
                     f"part 1 {'1' * 21}", "part 1 2 "):
            self.bad(4, "part", f"{self.START}\n{text}\nnone")

    def test_errors_of_the_constructors(self):
        for rows, what in (("part 0 1", "part"), ("part -1 2", "part"), ("part 3 2", "part"), (f"part 1 {'1' * 20}", "part"),
                           ("over farm\npart 1 2", "part"), ("\n".join(["if by(year 5, year 6)"] * 5), "conditions"),
                           ("\n".join(["if by(year 5, year 6)"] * 5) + "\npart 3 2", "conditions")):
            self.refused(BadGift, {"what": what}, read_deed, f"{self.START}\n{rows}")
        other = self.START.replace("farm", "mill")
        for text, index, what in ((f"{self.START}\n{self.START}", 1, "double"), (f"{self.START}\nover farm", 0, "over"),
                                  (f"{self.START}\nover mill", 0, "over"), (f"{self.START}\n{other}", 1, "part"),
                                  (f"{self.START}\n{other}\nover farm\n{other.replace('mill', 'field')}\nover farm", 2, "taken"),
                                  ("\n".join(self.START.replace("farm", name) + "\npart 1 9" for name in "abcdefghi"), 8, "many")):
            self.refused(BadDeed, {"index": index, "what": what}, read_deed, text)

    def test_bad_text_comes_first(self):
        self.bad(5, "name", f"{self.START}\npart 3 2\ngift M")
        self.bad(8, "word", f"{self.START}\n{self.START}\npart 1 1\nover x")
        # The gifts are made in order, and then the deed.
        self.refused(BadGift, {"what": "part"}, read_deed, f"{self.START}\n{self.START}\npart 0 1")


if __name__ == "__main__":
    unittest.main()
