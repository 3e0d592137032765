"""Records: what has happened to the lives and their families, row by row [1.4] to [1.12]."""

from lastlife.errors import BadRecord, NoLife, NoPerson, NoRow
from lastlife.facts import Facts
from lastlife.lives import Lives, require_lives
from lastlife.years import LATE


def record_fault(lives, rows):
    """Return the index and the word of the first wrong row, None if all rows are right."""
    return put_rows(Facts(lives), rows)


def put_rows(facts, rows):
    """Put the rows into the facts, and stop at the first wrong one: return its index and word."""
    for index, row in enumerate(rows):
        what = facts.fault(row)
        if what is not None:
            return (index, what)
        facts.put(row)
    return None


class Record:
    """Lives and the rows that tell what has happened."""

    def __init__(self, lives, rows=()):
        if not isinstance(lives, Lives):
            raise BadRecord(0, "lives")
        if not isinstance(rows, (list, tuple)):
            raise BadRecord(0, "rows")
        facts = Facts(lives)
        wrong = put_rows(facts, rows)
        if wrong is not None:
            raise BadRecord(wrong[0], wrong[1])
        self.lives = lives
        self.customs = lives.customs
        self.rows = tuple([tuple(row) for row in rows])
        self.persons = tuple(list(facts.births))
        self._facts = facts

    @property
    def end(self):
        """The year of the last row, 0 if there is none."""
        return self.rows[-1][1] if len(self.rows) > 0 else 0

    @property
    def unborn(self):
        """The names of the persons who are born in the rows, in their order."""
        return tuple([row[3] for row in self.rows if row[0] == "born"])

    def birth(self, person):
        """Return the year of birth, None for a mate."""
        self._require(person)
        return self._facts.births[person]

    def death(self, person):
        """Return the year of death, LATE if no row tells it."""
        self._require(person)
        return self._facts.deaths.get(person, LATE)

    def is_alive(self, person):
        """Return whether no row tells the person's death."""
        self._require(person)
        return person not in self._facts.deaths

    def parent(self, person):
        """Return the name of the parent, None for a mate and a life without one."""
        self._require(person)
        return self._facts.parents[person]

    def children(self, person):
        """Return the names of the person's children in the order of the persons."""
        self._require(person)
        return tuple(self._facts.offspring[person])

    def _require(self, person):
        if not isinstance(person, str) or person not in self._facts.births:
            raise NoPerson(person)

    def mates(self, life):
        """Return the names of all mates of a life in the order of the rows."""
        require_lives(self.lives, (life,))
        return tuple(self._facts.weddings[life])

    def mate(self, life):
        """Return the name of the last mate of a life, None if it has none."""
        names = self.mates(life)
        return names[-1] if len(names) > 0 else None

    def last_death(self, measuring):
        """Return the greatest year of death of these lives, LATE if one is alive."""
        require_lives(self.lives, measuring)
        return max([self.death(life) for life in measuring])

    def happened(self, name):
        """Return the year of a happening, None if it has not come."""
        return self._facts.comings.get(name)

    def until(self, year):
        """Return the record of all rows up to a year, with it."""
        return Record(self.lives, [row for row in self.rows if row[1] <= year])

    def after(self, *rows):
        """Return the record with these rows behind its own."""
        return Record(self.lives, self.rows + rows)

    def shorter(self):
        """Return the record without its last row."""
        if len(self.rows) == 0:
            raise NoRow()
        return Record(self.lives, self.rows[:-1])

    def __eq__(self, other):
        return isinstance(other, Record) and self.lives == other.lives and self.rows == other.rows

    def __len__(self):
        return len(self.rows)

    def __iter__(self):
        return iter(self.rows)
