"""Kins, dates, takers and conditions from their texts [11.5]."""

from lastlife.conditions import By, Unless
from lastlife.dates import DEEPEST, Close, Death, Earlier, First, Happening, Last, Later, Plus, Survivor, Year
from lastlife.errors import BadText
from lastlife.kin import Children, Grandchildren
from lastlife.numerals import number_within
from lastlife.takers import FirstReaching, Living, Mate, Named, Reaching, Told, Whole
from lastlife.years import MOST, is_name

SEPARATOR = ", "


def parse_kin(text):
    """Return the kin whose text this is."""
    return required(kin_of(words_of(text)), "kin")


def parse_date(text):
    """Return the date whose text this is."""
    return required(date_of(text) if isinstance(text, str) else None, "date")


def parse_taker(text):
    """Return the taker whose text this is."""
    return required(taker_of(words_of(text)), "taker")


def parse_condition(text):
    """Return the condition whose text this is."""
    return required(condition_of(text) if isinstance(text, str) else None, "condition")


def required(found, what):
    """Return what has been found; raise BadText if it is None."""
    if found is None:
        raise BadText(1, what)
    return found


def words_of(text):
    """Return the words of a text, none for a thing that is no string."""
    return text.split(" ") if isinstance(text, str) else []


def life_of(words):
    """Return the name in "of NAME", None for other words."""
    return words[1] if len(words) == 2 and words[0] == "of" and is_name(words[1]) else None


def kin_of(words):
    """Return the kin that the words tell, None if there is none."""
    life = life_of(words[1:])
    if life is None or words[0] not in ("children", "grandchildren"):
        return None
    return Children(life) if words[0] == "children" else Grandchildren(life)


def taker_of(words):
    """Return the taker that the words tell, None if there is none."""
    if len(words) == 2:
        return Named(words[1]) if words[0] == "life" and is_name(words[1]) else None
    if len(words) == 3:
        life = life_of(words[1:])
        return Mate(life) if words[0] == "mate" and life is not None else None
    kin = kin_of(words[-3:])
    return None if kin is None else kin_taker_of(words[:-3], kin)


def kin_taker_of(words, kin):
    """Return the taker that picks from a kin as the words tell, None if there is none."""
    if words == ["told"]:
        return Told(kin)
    if words == ["whole"]:
        return Whole(kin)
    if words == ["living"]:
        return Living(kin)
    age = number_within(words[-1], 0, MOST)
    if age is None:
        return None
    if words[:-1] == ["reaching"]:
        return Reaching(kin, age)
    return FirstReaching(kin, age) if words[:-1] == ["first", "reaching"] else None


def condition_of(text):
    """Return the condition whose text this is, None if there is none."""
    for word in ("by(", "unless("):
        if text.startswith(word) and text.endswith(")"):
            dates = [date_of(part) for part in parts_of(text[len(word):-1])]
            if len(dates) == 2 and None not in dates:
                return By(dates[0], dates[1]) if word == "by(" else Unless(dates[0], dates[1])
    return None


def parts_of(text):
    """Return the parts of a text between the separators that stand outside of all brackets."""
    found = []
    depth = 0
    start = 0
    for at, letter in enumerate(text):
        if letter == "(":
            depth = depth + 1
        elif letter == ")":
            depth = depth - 1
        elif depth == 0 and text[at:at + len(SEPARATOR)] == SEPARATOR:
            found.append(text[start:at])
            start = at + len(SEPARATOR)
    return [*found, text[start:]]


def date_of(text, level=1):
    """Return the date whose text this is, None if there is none; it stands so many levels deep."""
    if level > DEEPEST:
        return None
    if not text.endswith(")"):
        return leaf_of(text.split(" "))
    if text.startswith("("):
        inner, _, years = text[1:-1].rpartition(" plus ")
        date = date_of(inner, level + 1)
        years = number_within(years, 0, MOST)
        return None if date is None or years is None else Plus(date, years)
    for word in ("earlier(", "later("):
        if text.startswith(word):
            parts = parts_of(text[len(word):-1])
            # More parts need not be looked at.
            dates = [date_of(part, level + 1) for part in parts] if 2 <= len(parts) <= 4 else [None]
            if None not in dates:
                return Earlier(*dates) if word == "earlier(" else Later(*dates)
    return None


def leaf_of(words):
    """Return the date without inner dates that the words tell, None if there is none."""
    word = words[0]
    life = life_of(words[1:])
    if life is not None:
        return person_date_of(word, life)
    if len(words) == 2:
        number = number_within(words[1], -MOST, MOST)
        if word == "year" and number is not None:
            return Year(number)
        return Happening(words[1]) if word == "happening" and is_name(words[1]) else None
    kin = kin_of(words[-3:])
    if kin is None:
        return None
    if words[:-3] == ["close", "of"]:
        return Close(kin)
    return class_date_of(word, words[1:-3], kin) if isinstance(kin, Children) else None


def person_date_of(word, life):
    """Return the date of a life that the word tells, None if there is none."""
    if word == "death":
        return Death(life)
    return Survivor(life) if word == "survivor" else None


def class_date_of(word, words, kin):
    """Return the First or Last of a kin that the words tell, None if there is none."""
    if len(words) < 2 or words[-1] != "of":
        return None
    what = words[0] if len(words) == 2 else None
    if len(words) == 3 and words[0] == "age":
        what = number_within(words[1], 0, MOST)
    if what is None or (isinstance(what, str) and what not in ("birth", "death")):
        return None
    if word == "first":
        return First(kin, what)
    return Last(kin, what) if word == "last" and what != "birth" else None
