"""The records that times of a world tell."""

from lastlife.bounds import NO_BOUND
from lastlife.facts import place
from lastlife.record import Record
from lastlife.world import AT_END, GAP, START, ZERO

LETTERS = "abcdefghijklmnopqrstuvwxyz"


class Witness:
    """The earliest times within the bounds of a world, and the records that they tell."""

    def __init__(self, world, bounds):
        self.world = world
        self.bounds = bounds
        self.given = {}
        comers = self.comers()
        fresh = fresh_names(world.past.persons, len(comers))
        for comer, name in zip(comers, fresh):
            self.given[comer[4]] = name

    def row_year(self, time):
        """Return the year of a time, None if no row has it."""
        start = -self.bounds.most(ZERO, time[0])
        return start + time[1] if -NO_BOUND < start < GAP else None

    def first_year(self, person):
        """Return the year in which a newcomer is there for the first time, None if it does not come."""
        if person[0] == "other" or self.world.row == ("born", person):
            return self.row_year(AT_END)
        return self.row_year(self.world.start(person))

    def turn(self, person):
        """Return the turn of a newcomer among those who are there from the same year on."""
        return -self.bounds.most(ZERO, self.world.turn(person)[0]) if person in self.world.turns else 0

    def comers(self):
        """Return year, turn, rank, number and person of the newcomers who come, as they are named one by one."""
        persons = [("mate", name) if word == "wed" else name
                   for word, name in self.world.instants if word in ("born", "wed")]
        if self.world.row is not None and self.world.row[0] in ("born", "wed"):
            word, name = self.world.row
            persons.append(("other", name) if word == "wed" else name)
        ranks = sorted(set([self.world.rank(person) for person in persons]))
        found = []
        for person in persons:
            year = self.first_year(person)
            if year is not None:
                number = person[2] if len(person) == 3 else 0
                found.append((year, self.turn(person), ranks.index(self.world.rank(person)), number, person))
        return sorted(found)

    def given_name(self, person):
        """Return the name of a person."""
        return person if isinstance(person, str) else self.given.get(person)

    def parent(self, person):
        """Return the name of a newcomer's parent."""
        if person[0] == "child":
            return person[1]
        birth = self.first_year(person)
        customs = self.world.past.customs
        for parent in self.world.possible_parents(person[1]):
            born = self.row_year(self.world.birth(parent))
            if born is not None and born + customs.parent_age <= birth:
                died = self.row_year(self.world.death(parent, True))
                if died is None or birth <= died + customs.years_after:
                    return self.given_name(parent)
        return None

    def event_row(self, word, name, year):
        """Return the row of an event."""
        if word == "happened":
            return (word, year, name)
        if word == "died":
            return (word, year, self.given_name(name))
        if word == "born":
            return (word, year, self.parent(name), self.given_name(name))
        return (word, year, name, self.given_name(("mate", name)))

    def new_rows(self):
        """Return the rows behind the year, without the row in question."""
        found = []
        for word, name in list(self.world.instants):
            year = self.row_year((self.world.instants[(word, name)], 0))
            if year is not None:
                found.append(self.event_row(word, name, year))
        for life in self.world.measuring:
            # A life on which nothing hangs has no instant of its own.
            if self.world.past.is_alive(life) and ("died", life) not in self.world.instants:
                found.append(("died", self.row_year((START, 0)), life))
        return found

    def row_in_question(self):
        """Return the row in question."""
        word, name = self.world.row
        year = self.row_year(AT_END)
        if word == "wed":
            return (word, year, name, self.given_name(("other", name)))
        return self.event_row(word, name, year)

    def told_record(self, more=()):
        """Return the record, with some rows more."""
        rows = [*self.world.past.rows, *self.new_rows(), *more]
        return Record(self.world.past.lives, sorted(rows, key=place))


def fresh_names(used, many):
    """Return so many names that are not used, ascending."""
    found = []
    for first in LETTERS:
        for second in LETTERS:
            if len(found) == many:
                return found
            name = f"n{first}{second}"
            if name not in used:
                found.append(name)
    return found


def tipping(record, other, takers):
    """Return a record whose last row tips what takers tells of records; it leads from one of both to their common rows.

    The takers of both are unlike, and both are the same up to the year ahead of the last row.
    """
    for start in (record, other):
        longer = start
        while len(longer) > 0 and longer.end == max(record.end, other.end):
            shorter = longer.shorter()
            if takers(longer) != takers(shorter):
                return longer
            longer = shorter
    return None
