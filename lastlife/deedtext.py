"""Deeds as texts [11.6]."""

from lastlife.datetext import parse_condition, parse_date, parse_taker
from lastlife.deed import Deed
from lastlife.errors import BadText
from lastlife.gifts import Gift
from lastlife.numerals import is_numeral
from lastlife.recordtext import rows_of_text
from lastlife.years import is_name

BEGINNING = ("gift",)
# The words with which the next row may begin.
NEXT = {
    "gift": ("to",),
    "to": ("on",),
    "on": ("if", "over", "until", "part", "gift"),
    "if": ("if", "over", "until", "part", "gift"),
    "over": ("until", "part", "gift"),
    "until": ("part", "gift"),
    "part": ("gift",),
}


def deed_text(deed):
    """Return the text of a deed."""
    return "\n".join([row for gift in deed.gifts for row in gift_rows(gift)])


def gift_rows(gift):
    """Return the rows of text for a gift."""
    rows = [f"gift {gift.name}", f"to {gift.taker}", f"on {gift.date}"]
    rows.extend([f"if {condition}" for condition in gift.conditions])
    if gift.over is not None:
        rows.append(f"over {gift.over}")
    if gift.until is not None:
        rows.append(f"until {gift.until}")
    if gift.over is None:
        rows.append(f"part {gift.part[0]} {gift.part[1]}")
    return rows


def read_deed(text):
    """Return the deed of a text."""
    found = []
    allowed = BEGINNING
    rows = rows_of_text(text)
    for number, row in enumerate(rows, 1):
        word, _, told = row.partition(" ")
        if word not in allowed:
            raise BadText(number, "word")
        found.append((word, read_thing(number, word, told)))
        allowed = NEXT[word]
    if "gift" not in allowed:
        raise BadText(len(rows) + 1, "word")
    gifts = [made_gift(things) for things in things_of_gifts(found)]
    return Deed(*gifts)


def read_thing(number, word, told):
    """Return what is told behind the first word of the row of this number."""
    if word in ("gift", "over"):
        if not is_name(told):
            raise BadText(number, "name")
        return told
    if word == "part":
        return read_part(number, told.split(" "))
    try:
        return parsed(word, told)
    except BadText as wrong:
        raise BadText(number, wrong.what) from None


def read_part(number, words):
    """Return the part that the words tell."""
    if len(words) != 2 or not all([is_numeral(word) for word in words]):
        raise BadText(number, "part")
    return (int(words[0]), int(words[1]))


def parsed(word, told):
    """Return the taker, the date or the condition that is told."""
    if word == "to":
        return parse_taker(told)
    return parse_condition(told) if word == "if" else parse_date(told)


def things_of_gifts(rows):
    """Return for each gift the pairs of a word and what its row tells."""
    found = []
    for row in rows:
        if row[0] == "gift":
            found.append([])
        found[-1].append(row)
    return found


def made_gift(things):
    """Return the gift of pairs of a word and what its row tells."""
    told = {word: thing for word, thing in things}
    conditions = [thing for word, thing in things if word == "if"]
    name, taker, date = told["gift"], told["to"], told["on"]
    over, until, part = told.get("over"), told.get("until"), told.get("part", (1, 1))
    return Gift(name, taker, date, *conditions, over=over, until=until, part=part)
