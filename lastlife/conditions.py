"""Conditions that compare two dates [3.5]."""

from lastlife.dates import Date, lives_of
from lastlife.errors import BadCondition


class Condition:
    """The base of both conditions."""

    def __init__(self, one, other):
        if not isinstance(one, Date):
            raise BadCondition("one")
        if not isinstance(other, Date):
            raise BadCondition("other")
        self.one = one
        self.other = other
        self.lives_named = lives_of((one, other))


class By(Condition):
    """Holds if one date comes and the other one does not come ahead of it."""

    def __init__(self, one, other):
        super().__init__(one, other)

    def holds(self, record):
        """Return whether the condition holds in the record."""
        return comes_by(self.one.year(record), self.other.year(record))

    def __invert__(self):
        return Unless(self.one, self.other)

    def __eq__(self, other):
        return isinstance(other, By) and self.one == other.one and self.other == other.other

    def __str__(self):
        return f"by({self.one}, {self.other})"


class Unless(Condition):
    """Holds exactly if By does not hold for the same dates."""

    def __init__(self, one, other):
        super().__init__(one, other)

    def holds(self, record):
        """Return whether the condition holds in the record."""
        return not comes_by(self.one.year(record), self.other.year(record))

    def __invert__(self):
        return By(self.one, self.other)

    def __eq__(self, other):
        return isinstance(other, Unless) and self.one == other.one and self.other == other.other

    def __str__(self):
        return f"unless({self.one}, {self.other})"


def comes_by(year, other_year):
    """Return whether the first year comes, and not behind the other one; None never comes."""
    return year is not None and (other_year is None or year <= other_year)
