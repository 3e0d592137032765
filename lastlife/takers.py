"""Takers, who say which persons get a gift [3.1] to [3.4]."""

from lastlife.errors import BadTaker
from lastlife.kin import Kin
from lastlife.lives import require_lives
from lastlife.years import MOST, is_name, is_whole


class Taker:
    """The base of the seven takers."""


class OfLife(Taker):
    """The base of those that name a life."""

    def __init__(self, life):
        if not is_name(life):
            raise BadTaker("life")
        self.life = life
        self.lives_named = (life,)


class OfKin(Taker):
    """The base of those that pick from a kin."""

    def __init__(self, kin):
        if not isinstance(kin, Kin):
            raise BadTaker("kin")
        self.kin = kin
        self.lives_named = (kin.life,)


class Named(OfLife):
    """A life, dead or alive."""

    def __init__(self, life):
        super().__init__(life)

    def of(self, record, year):
        """Return the life, at every year."""
        require_lives(record.lives, self.lives_named)
        return (self.life,)

    def __eq__(self, other):
        return isinstance(other, Named) and self.life == other.life

    def __str__(self):
        return f"life {self.life}"


class Mate(OfLife):
    """The last mate of a life."""

    def __init__(self, life):
        super().__init__(life)

    def of(self, record, year):
        """Return the last mate in the whole record, at every year."""
        mate = record.mate(self.life)
        return () if mate is None else (mate,)

    def __eq__(self, other):
        return isinstance(other, Mate) and self.life == other.life

    def __str__(self):
        return f"mate of {self.life}"


class Told(OfKin):
    """The members of a kin that are lives."""

    def __init__(self, kin):
        super().__init__(kin)

    def of(self, record, year):
        """Return these members, at every year."""
        return tuple([member for member in self.kin.members(record) if record.lives.has(member)])

    def __eq__(self, other):
        return isinstance(other, Told) and self.kin == other.kin

    def __str__(self):
        return f"told {self.kin}"


class Whole(OfKin):
    """All members of a kin who are born, dead or alive."""

    def __init__(self, kin):
        super().__init__(kin)

    def of(self, record, year):
        """Return the members who are born by the year."""
        return born_members(self.kin, record, year)

    def __eq__(self, other):
        return isinstance(other, Whole) and self.kin == other.kin

    def __str__(self):
        return f"whole {self.kin}"


class Living(OfKin):
    """The members of a kin who live."""

    def __init__(self, kin):
        super().__init__(kin)

    def of(self, record, year):
        """Return the members who are born by the year and have not died ahead of it."""
        born = born_members(self.kin, record, year)
        return tuple([member for member in born if year <= record.death(member)])

    def __eq__(self, other):
        return isinstance(other, Living) and self.kin == other.kin

    def __str__(self):
        return f"living {self.kin}"


class Reaching(OfKin):
    """The members of a kin who are born and reach an age, be it later."""

    def __init__(self, kin, age):
        super().__init__(kin)
        require_age(age)
        self.age = age

    def of(self, record, year):
        """Return the members who are born by the year and reach the age."""
        born = born_members(self.kin, record, year)
        return tuple([member for member in born if reaches(record, member, self.age)])

    def __eq__(self, other):
        return isinstance(other, Reaching) and self.kin == other.kin and self.age == other.age

    def __str__(self):
        return f"reaching {self.age} {self.kin}"


class FirstReaching(OfKin):
    """The one member of a kin who is the first to reach an age."""

    def __init__(self, kin, age):
        super().__init__(kin)
        require_age(age)
        self.age = age

    def of(self, record, year):
        """Return the first born of the members who have reached the age by the year."""
        born = born_members(self.kin, record, year - self.age)
        reached = [member for member in born if reaches(record, member, self.age)]
        if len(reached) == 0:
            return ()
        # Of several members that tie, min returns the first one.
        return (min(reached, key=lambda member: record.birth(member)),)

    def __eq__(self, other):
        return isinstance(other, FirstReaching) and self.kin == other.kin and self.age == other.age

    def __str__(self):
        return f"first reaching {self.age} {self.kin}"


def require_age(age):
    """Raise BadTaker unless the thing is an age."""
    if not is_whole(age, 0, MOST):
        raise BadTaker("age")


def born_members(kin, record, year):
    """Return the members of the kin who are born by the year."""
    return tuple([member for member in kin.members(record) if record.birth(member) <= year])


def reaches(record, member, age):
    """Return whether the member reaches the age ahead of its death or in its year."""
    return record.birth(member) + age <= record.death(member)
