"""What the rows of a record tell, gathered row by row [1.4] to [1.7]."""

from lastlife.years import MOST_YEAR, is_name, is_whole

MOST_ROWS = 200
LENGTHS = {"born": 4, "wed": 4, "happened": 3, "died": 3}
RANKS = {"born": 0, "wed": 1, "happened": 2, "died": 3}


def is_row(row):
    """Return whether the thing has the form of a row: a word, a year and names."""
    if not isinstance(row, (list, tuple)) or len(row) == 0:
        return False
    word = row[0]
    if not isinstance(word, str) or word not in LENGTHS or len(row) != LENGTHS[word]:
        return False
    return is_whole(row[1], 1, MOST_YEAR) and all([is_name(name) for name in row[2:]])


def place(row):
    """Return what rows are sorted by [1.6]."""
    return (row[1], RANKS[row[0]], row[-1])


class Facts:
    """The persons, births, weddings, happenings and deaths that the rows so far tell."""

    def __init__(self, lives):
        self.customs = lives.customs
        self.many = 0
        # Years of rows are at least 1, so each row's place comes behind this one.
        self.last_place = (0, 0, "")
        # In the order of a record's persons; a mate has no birth year and stands with None.
        self.births = {}
        self.parents = {}
        self.offspring = {}
        self.deaths = {}
        self.weddings = {}
        self.comings = {}
        for name, age, parent in lives.rows:
            self.add_person(name, -age, parent)
            self.weddings[name] = []

    def add_person(self, name, birth, parent):
        """Add a person behind the others."""
        self.births[name] = birth
        self.parents[name] = parent
        self.offspring[name] = []
        if parent is not None:
            self.offspring[parent].append(name)

    def fault(self, row):
        """Return the word of [1.7] for the next row, None if it is right."""
        if self.many >= MOST_ROWS:
            return "many"
        if not is_row(row):
            return "row"
        if place(row) <= self.last_place:
            return "order"
        if row[0] == "born":
            return self.born_fault(row[1], row[2], row[3])
        if row[0] == "wed":
            return self.wed_fault(row[1], row[2], row[3])
        if row[0] == "happened":
            return "again" if row[2] in self.comings else None
        return self.died_fault(row[2])

    def born_fault(self, year, parent, name):
        """Return the word for a birth."""
        if self.births.get(parent) is None:
            return "parent"
        if year < self.births[parent] + self.customs.parent_age:
            return "young"
        if parent in self.deaths and year > self.deaths[parent] + self.customs.years_after:
            return "dead"
        return "name" if name in self.births else None

    def wed_fault(self, year, life, name):
        """Return the word for a wedding."""
        if life not in self.weddings:
            return "life"
        if life in self.deaths:
            return "dead"
        if year < self.births[life] + self.customs.wed_age:
            return "young"
        return "name" if name in self.births else None

    def died_fault(self, name):
        """Return the word for a death."""
        if name not in self.births:
            return "person"
        return "dead" if name in self.deaths else None

    def put(self, row):
        """Put a row that is right behind the others."""
        word, year, name = row[0], row[1], row[-1]
        if word == "born":
            self.add_person(name, year, row[2])
        elif word == "wed":
            self.add_person(name, None, None)
            self.weddings[row[2]].append(name)
        elif word == "happened":
            self.comings[name] = year
        else:
            self.deaths[name] = year
        self.many += 1
        self.last_place = place(row)
