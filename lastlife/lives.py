"""The lives, persons who are told at year 0 [1.3]."""

from lastlife.customs import Customs
from lastlife.errors import BadLives, NoLife
from lastlife.years import MOST, is_name, is_whole

MOST_LIVES = 6


class Lives:
    """The customs and the rows of the lives."""

    def __init__(self, customs, rows):
        if not isinstance(customs, Customs):
            raise BadLives(0, "customs")
        if not isinstance(rows, (list, tuple)) or not 1 <= len(rows) <= MOST_LIVES:
            raise BadLives(0, "rows")
        told = {}
        for index, row in enumerate(rows):
            what = life_fault(customs, told, row)
            if what is not None:
                raise BadLives(index, what)
            told[row[0]] = tuple(row)
        self.customs = customs
        self.rows = tuple(list(told.values()))
        self._told = told

    @property
    def names(self):
        """The names of the lives in order."""
        return tuple([row[0] for row in self.rows])

    def has(self, name):
        """Return whether there is a life of this name; the name may be any thing."""
        return isinstance(name, str) and name in self._told

    def age(self, name):
        """Return the age of a life at year 0."""
        if not self.has(name):
            raise NoLife(name)
        return self._told[name][1]

    def parent(self, name):
        """Return the name of a life's parent, None if no row tells it."""
        if not self.has(name):
            raise NoLife(name)
        return self._told[name][2]

    def __eq__(self, other):
        return isinstance(other, Lives) and self.customs == other.customs and self.rows == other.rows

    def __len__(self):
        return len(self.rows)

    def __iter__(self):
        return iter(self.rows)


def life_fault(customs, told, row):
    """Return the word for a row behind the rows that are told, a dict by name, or None."""
    if not isinstance(row, (list, tuple)) or len(row) != 3:
        return "row"
    name, age, parent = row
    if not is_name(name):
        return "name"
    if name in told:
        return "double"
    if not is_whole(age, 0, MOST):
        return "age"
    if parent is None:
        return None
    if not is_name(parent) or parent not in told:
        return "parent"
    if told[parent][1] - age < customs.parent_age:
        return "young"
    return None


def require_lives(lives, names):
    """Raise NoLife for the first of the names that is no life."""
    for name in names:
        if not lives.has(name):
            raise NoLife(name)
