"""Lives and records as texts [11.1] to [11.4]."""

from lastlife.customs import Customs
from lastlife.errors import BadText
from lastlife.lives import Lives
from lastlife.numerals import is_numeral
from lastlife.record import Record

NOBODY = "-"
NAME_WIDTH = 8
YEAR_WIDTH = 12
HEAD = "customs"
LIFE = "life"
ROWS = ("born", "wed", "happened", "died")
COUNTS = {"customs": 5, "life": 4, "born": 4, "wed": 4, "happened": 3, "died": 3}


def lives_text(lives):
    """Return the text of the customs and the lives."""
    customs = lives.customs
    rows = [f"{HEAD} {customs.parent_age} {customs.years_after} {customs.wed_age} {customs.limit}"]
    for name, age, parent in lives.rows:
        rows.append(f"{LIFE} {name} {age} {NOBODY if parent is None else parent}")
    return "\n".join(rows)


def record_text(record):
    """Return the text of the lives and the rows of a record."""
    rows = [" ".join([str(entry) for entry in row]) for row in record.rows]
    return "\n".join([lives_text(record.lives), *rows])


def rows_of_text(text):
    """Return the rows of a text; raise BadText if it is none."""
    if not isinstance(text, str):
        raise BadText(1, "text")
    return text.split("\n")


def read_rows(text, allowed):
    """Return the words of all rows, of which those behind the lives begin with the allowed words."""
    found = []
    first_words = (HEAD,)
    for number, row in enumerate(rows_of_text(text), 1):
        words = row.split(" ")
        what = row_fault(words, first_words)
        if what is not None:
            raise BadText(number, what)
        first_words = allowed if words[0] in ROWS else (LIFE, *allowed)
        found.append(words)
    return found


def row_fault(words, first_words):
    """Return the word for the words of a row that begins with one of the first words, or None."""
    if words[0] not in first_words:
        return "word"
    if len(words) != COUNTS[words[0]]:
        return "count"
    return None if all([is_numeral(word) for word in numbers_of(words)]) else "number"


def numbers_of(words):
    """Return the words in the places of numbers."""
    if words[0] == HEAD:
        return words[1:]
    return words[2:3] if words[0] == LIFE else words[1:2]


def made_lives(rows):
    """Return the lives of rows of words, of which the first one tells the customs."""
    numbers = [int(word) for word in rows[0][1:]]
    customs = Customs(numbers[0], years_after=numbers[1], wed_age=numbers[2], limit=numbers[3])
    return Lives(customs, [(words[1], int(words[2]), None if words[3] == NOBODY else words[3])
                           for words in rows if words[0] == LIFE])


def read_lives(text):
    """Return the lives of a text."""
    return made_lives(read_rows(text, ()))


def read_record(text):
    """Return the record of a text."""
    rows = read_rows(text, ROWS)
    lives = made_lives(rows)
    return Record(lives, [(words[0], int(words[1]), *words[2:]) for words in rows if words[0] in ROWS])


def person_table(record):
    """Return a row of text for each person: name, years of birth and death, and parent."""
    return tuple([person_row(record, person) for person in record.persons])


def person_row(record, person):
    """Return the row of text for a person."""
    birth = record.birth(person)
    death = None if record.is_alive(person) else record.death(person)
    parent = record.parent(person)
    years = f"{year_text(birth)}{year_text(death)}"
    return f"{person.ljust(NAME_WIDTH)}{years} {NOBODY if parent is None else parent}"


def year_text(year):
    """Return the text of a year, right-aligned; None stands for no year."""
    return (NOBODY if year is None else str(year)).rjust(YEAR_WIDTH)
