"""A world: a record whose rows behind a year are not known. Its events are instants with bounds and sentences.

A person is told by its name, a newcomer by a tuple: ("child", life, number) and ("grand", life, number) for
the children and the other grandchildren of a life, ("mate", life) for its next mate, ("other", life) for the
mate of a wedding that is the row in question. A time is a pair of an instant and so many years behind it.

The row in question, if there is one, is the last one, or it stands in the last year beside others. Every time
is asked for the record with this row, and for the shorter one without it. It is told as ("died", person),
("born", person), ("wed", life) or ("happened", name).
"""

from lastlife.facts import RANKS
from lastlife.kin import Children
from lastlife.sentences import all_of, some_of

ZERO = 0
LATE_AT = 1
NEVER = 2
END = 3
DEAD = 4
START = 5
FIRST_FREE = 6

# Unrecorded deaths stand so far behind all rows, and what never comes so far behind these.
GAP = 1000000000000

# The times of LATE_AT, NEVER and END themselves; at module level stand only plain values.
AT_LATE = (1, 0)
AT_NEVER = (2, 0)
AT_END = (3, 0)


def link(one, other, most=0):
    """Return the sentence that one time is at most so many years above another one."""
    years = most + other[1] - one[1]
    return 0 <= years if one[0] == other[0] else (one[0], other[0], years)


class World:
    """The events behind a year, with the links and the sentences that make them rows of a record."""

    def __init__(self, past, since, pools, row=None, measuring=(), is_beside=False):
        self.past = past
        self.pools = pools
        self.row = row
        self.measuring = measuring
        self.is_beside = is_beside
        self.count = FIRST_FREE
        self.instants = {}
        self.turns = {}
        self.links = [(ZERO, START, -since - 1), (START, END, 0), (END, LATE_AT, -GAP), (LATE_AT, NEVER, -GAP),
                      (DEAD, END, -1)]
        self.rules = []
        self.named = []
        for life in measuring:
            self.links.append((START, DEAD, 0) if past.is_alive(life) else (ZERO, DEAD, -past.death(life)))

    def added_instant(self, word, name):
        """Return a new instant for an event."""
        at = self.free_time()[0]
        self.instants[(word, name)] = at
        return at

    def free_time(self):
        """Return the time of a new instant on which nothing hangs."""
        at = self.count
        self.count += 1
        return (at, 0)

    def latest(self, word):
        """Return the last time at which an event of this kind can have its row."""
        behind = self.row is not None and not self.is_beside and RANKS[word] > RANKS[self.row[0]]
        return (END, -1) if behind else AT_END

    def death(self, person, shorter):
        """Return the time of a person's death."""
        if self.row == ("died", person):
            return AT_LATE if shorter else AT_END
        if self.row == ("born", person) or person[0] == "other":
            return AT_LATE
        if isinstance(person, str) and not self.past.is_alive(person):
            return (ZERO, self.past.death(person))
        if isinstance(person, str):
            if ("died", person) not in self.instants:
                self.add_known(person)
        else:
            self.start(person)
        return (self.instants[("died", person)], 0)

    def birth(self, person):
        """Return the time of a person's birth; a newcomer who does not come is born never."""
        if isinstance(person, str):
            return (ZERO, self.past.birth(person))
        if self.row == ("born", person):
            return AT_END
        if ("born", person) not in self.instants:
            self.add_newcomer(person)
        return (self.instants[("born", person)], 0)

    def start(self, person):
        """Return the time from which on a newcomer or a new mate is there."""
        return self.wedding(person[1]) if person[0] == "mate" else self.birth(person)

    def add_known(self, person):
        """Add the death of a known person who is alive."""
        death = self.added_instant("died", person)
        self.links.extend([(START, death, 0), (death, LATE_AT, 0)])
        if person in self.measuring:
            self.links.append((death, DEAD, 0))
        else:
            self.rules.append(some_of([link((death, 0), self.latest("died")), link(AT_LATE, (death, 0))]))

    def add_newcomer(self, person):
        """Add the birth and the death of a child or a grandchild."""
        word, life, number = person
        birth = self.added_instant("born", person)
        self.links.extend([(START, birth, 0), (birth, NEVER, 0)])
        before = (word, life, number - 1)
        if number > 0 and not self.is_subject(before):
            # Newcomers stand in the order of their births; those who never come stand last.
            self.links.append(link(self.birth(before), (birth, 0)))
        present = [link((birth, 0), AT_END), self.birth_rule(person)]
        if self.row == ("died", person):
            self.rules.append(all_of(present))
            return
        self.add_arrival("died", person, birth, present)

    def add_arrival(self, word, person, start, present):
        """Add the death of a newcomer who comes at the start, and the choice whether it comes."""
        death = self.added_instant(word, person)
        self.links.extend([(start, death, 0), (death, NEVER, 0)])
        alive = all_of([link(AT_LATE, (death, 0)), link((death, 0), AT_LATE)])
        dies = some_of([link((death, 0), self.latest("died")), alive])
        self.rules.append(some_of([link(AT_NEVER, (start, 0)), all_of([*present, dies])]))

    def birth_rule(self, person):
        """Return the sentence that a newcomer who comes has a parent at its birth."""
        word, life, _ = person
        birth = self.birth(person)
        if word == "child":
            self.links.append(link((ZERO, self.past.birth(life) + self.past.customs.parent_age), birth))
            return self.parent_rule(life, birth)
        return some_of([self.parent_rule(parent, birth) for parent in self.possible_parents(life)])

    def possible_parents(self, life):
        """Return the persons who can be parents of the other grandchildren of a life."""
        known = [person for person in self.past.children(life) if ("child", person) not in self.pools]
        return [*known, *[person for person in self.pool(("child", life)) if self.row != ("born", person)]]

    def parent_rule(self, parent, birth):
        """Return the sentence that the parent can have a child that is born at this time."""
        customs = self.past.customs
        old = link(self.birth(parent), birth, -customs.parent_age)
        if self.row == ("died", parent):
            # No row stands behind this death.
            return old
        return all_of([old, link(birth, self.death(parent, True), customs.years_after)])

    def pool(self, place):
        """Return the newcomers of a pool."""
        return [(place[0], place[1], number) for number in range(self.pools.get(place, 0))]

    def members(self, kin, shorter):
        """Return the persons of a kin: first the known ones, then the newcomers."""
        places = [("child", kin.life)]
        if not isinstance(kin, Children):
            places = [("grand", kin.life), *[("child", person) for person in self.past.children(kin.life)]]
        newcomers = [person for place in places for person in self.pool(place)]
        if shorter and self.row[0] == "born":
            newcomers = [person for person in newcomers if person != self.row[1]]
        return [*kin.members(self.past), *newcomers]

    def is_there(self, person):
        """Return the sentence that a person is one of the record."""
        return True if isinstance(person, str) else link(self.birth(person), AT_END)

    def wedding(self, life):
        """Return the time of the life's next wedding, the last one but for the row in question."""
        if ("wed", life) not in self.instants:
            self.add_wedding(life)
        return (self.instants[("wed", life)], 0)

    def add_wedding(self, life):
        """Add the next wedding of a life that is alive."""
        wedding = self.added_instant("wed", life)
        youngest = self.past.birth(life) + self.past.customs.wed_age
        self.links.extend([(START, wedding, 0), (ZERO, wedding, -youngest), (wedding, NEVER, 0)])
        present = [link((wedding, 0), self.latest("wed"))]
        if self.row != ("died", life):
            present.append(link((wedding, 0), self.death(life, True)))
        if self.row == ("died", ("mate", life)):
            self.rules.append(all_of(present))
        else:
            self.add_arrival("died", ("mate", life), wedding, present)

    def mates(self, life, shorter):
        """Return the pairs of a person and the sentence that this is the last mate of the life."""
        if self.row == ("wed", life) and not shorter:
            return [(("other", life), True)]
        known = self.past.mate(life)
        if not self.past.is_alive(life):
            return [] if known is None else [(known, True)]
        weds = link(self.wedding(life), AT_END)
        pairs = [] if known is None else [(known, link(AT_NEVER, self.wedding(life)))]
        return [*pairs, (("mate", life), weds)]

    def happening(self, name, shorter):
        """Return the time of a happening."""
        year = self.past.happened(name)
        if year is not None:
            return (ZERO, year)
        if self.row == ("happened", name):
            return AT_NEVER if shorter else AT_END
        if ("happened", name) not in self.instants:
            at = self.added_instant("happened", name)
            self.links.extend([(START, at, 0), (at, NEVER, 0)])
            self.rules.append(some_of([link((at, 0), self.latest("happened")), link(AT_NEVER, (at, 0))]))
        return (self.instants[("happened", name)], 0)

    def is_subject(self, person):
        """Return whether the row in question is the birth or the death of this newcomer."""
        return self.row is not None and self.row[1] == person

    def rank(self, newcomer):
        """Return a rank that newcomers share who stand in the order of their births."""
        return (newcomer[0], newcomer[1], 0 if self.is_subject(newcomer) else 1)

    def turn(self, newcomer):
        """Return the time that tells the turn of a newcomer's name among those who are born in one year."""
        if newcomer not in self.turns:
            at = self.free_time()[0]
            self.turns[newcomer] = at
            self.links.append((ZERO, at, 0))
            before = (newcomer[0], newcomer[1], newcomer[2] - 1)
            if newcomer[2] > 0 and self.rank(before) == self.rank(newcomer):
                self.links.append(link(self.turn(before), (at, 0)))
        return (self.turns[newcomer], 0)

    def require_row(self):
        """Add that the row in question is right where it stands."""
        if self.row is None:
            return
        word, name = self.row
        if word == "wed":
            youngest = self.past.birth(name) + self.past.customs.wed_age
            self.links.append((ZERO, END, -youngest))
            # A death of the same year stands behind a wedding, which is not the last row then.
            self.rules.append(link(AT_END if self.is_beside else AT_LATE, self.death(name, True)))
        elif word == "born":
            self.rules.append(self.birth_rule(name))
        elif word == "died" and not isinstance(name, str):
            self.start(name)
