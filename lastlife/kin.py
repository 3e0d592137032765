"""Kins, the classes of persons that takers and dates name [2.1]."""

from lastlife.errors import BadKin
from lastlife.lives import require_lives
from lastlife.years import is_name


class Kin:
    """The base of both kins."""

    def __init__(self, life):
        if not is_name(life):
            raise BadKin("life")
        self.life = life


class Children(Kin):
    """The children of a life."""

    def __init__(self, life):
        super().__init__(life)

    def members(self, record):
        """Return the names of the members in the order of the record's persons."""
        require_lives(record.lives, (self.life,))
        return record.children(self.life)

    def closing(self, record):
        """Return the last year in which a member can be born."""
        require_lives(record.lives, (self.life,))
        return record.death(self.life) + record.customs.years_after

    def __eq__(self, other):
        return isinstance(other, Children) and self.life == other.life

    def __str__(self):
        return f"children of {self.life}"


class Grandchildren(Kin):
    """The children of a life's children."""

    def __init__(self, life):
        super().__init__(life)

    def members(self, record):
        """Return the names of the members in the order of the record's persons."""
        require_lives(record.lives, (self.life,))
        parents = record.children(self.life)
        return tuple([person for person in record.persons if record.parent(person) in parents])

    def closing(self, record):
        """Return the last year in which a member can be born."""
        require_lives(record.lives, (self.life,))
        # As long as the life lives, one more child can be born and be a parent.
        elders = (self.life, *record.children(self.life))
        return max([record.death(person) for person in elders]) + record.customs.years_after

    def __eq__(self, other):
        return isinstance(other, Grandchildren) and self.life == other.life

    def __str__(self):
        return f"grandchildren of {self.life}"
