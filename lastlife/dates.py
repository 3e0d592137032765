"""Dates that hang on births, weddings, happenings and deaths [2.2] to [2.9]."""

from lastlife.errors import BadDate
from lastlife.kin import Children, Grandchildren, Kin
from lastlife.lives import require_lives
from lastlife.names import each_once
from lastlife.years import MOST, is_name, is_whole

DEEPEST = 6


class Date:
    """The base of all dates; each class tells in `year_on` the year on a record that has its lives."""

    def __init__(self, depth, lives_named, happenings, class_dates):
        self.depth = depth
        self.lives_named = lives_named
        self.happenings = happenings
        self.class_dates = class_dates

    def year(self, record):
        """Return the date's year on the record, None if it never comes."""
        require_lives(record.lives, self.lives_named)
        return self.year_on(record)

    def __add__(self, years):
        return Plus(self, years)

    def __or__(self, other):
        return Earlier(self, other)

    def __and__(self, other):
        return Later(self, other)


class Year(Date):
    """A year that is told by its number."""

    def __init__(self, number):
        if not is_whole(number, -MOST, MOST):
            raise BadDate("number")
        super().__init__(1, (), (), 0)
        self.number = number

    def year_on(self, record):
        """Return the number, whatever the record tells."""
        return self.number

    def __eq__(self, other):
        return isinstance(other, Year) and self.number == other.number

    def __str__(self):
        return f"year {self.number}"


class Death(Date):
    """The year of a life's death."""

    def __init__(self, life):
        if not is_name(life):
            raise BadDate("life")
        super().__init__(1, (life,), (), 0)
        self.life = life

    def year_on(self, record):
        """Return the year of the death, LATE if no row tells it."""
        return record.death(self.life)

    def __eq__(self, other):
        return isinstance(other, Death) and self.life == other.life

    def __str__(self):
        return f"death of {self.life}"


class Survivor(Date):
    """The year in which the last one of a life and its last mate dies."""

    def __init__(self, life):
        if not is_name(life):
            raise BadDate("life")
        super().__init__(1, (life,), (), 0)
        self.life = life

    def year_on(self, record):
        """Return the later one of both deaths, or the only one."""
        mate = record.mate(self.life)
        if mate is None:
            return record.death(self.life)
        return max(record.death(self.life), record.death(mate))

    def __eq__(self, other):
        return isinstance(other, Survivor) and self.life == other.life

    def __str__(self):
        return f"survivor of {self.life}"


class Happening(Date):
    """The year of an outside happening."""

    def __init__(self, name):
        if not is_name(name):
            raise BadDate("name")
        super().__init__(1, (), (name,), 0)
        self.name = name

    def year_on(self, record):
        """Return the year of the happening, None if it has not come."""
        return record.happened(self.name)

    def __eq__(self, other):
        return isinstance(other, Happening) and self.name == other.name

    def __str__(self):
        return f"happening {self.name}"


class Close(Date):
    """The last year in which a member of a kin can be born."""

    def __init__(self, kin):
        if not isinstance(kin, Kin):
            raise BadDate("kin")
        super().__init__(1, (kin.life,), (), 1 if isinstance(kin, Grandchildren) else 0)
        self.kin = kin

    def year_on(self, record):
        """Return the closing of the kin."""
        return self.kin.closing(record)

    def __eq__(self, other):
        return isinstance(other, Close) and self.kin == other.kin

    def __str__(self):
        return f"close of {self.kin}"


class First(Date):
    """The first birth, death or coming of age among children."""

    def __init__(self, kin, what):
        if not isinstance(kin, Children):
            raise BadDate("kin")
        if not is_word(what, ("birth", "death")) and not is_whole(what, 0, MOST):
            raise BadDate("what")
        super().__init__(1, (kin.life,), (), 1)
        self.kin = kin
        self.what = what

    def year_on(self, record):
        """Return the least year among the members, None if there is none."""
        return min(first_years(record, self.kin.members(record), self.what), default=None)

    def __eq__(self, other):
        return isinstance(other, First) and self.kin == other.kin and self.what == other.what

    def __str__(self):
        return f"first {what_text(self.what)} of {self.kin}"


class Last(Date):
    """The year from which on no child can die any more, or none can come of age."""

    def __init__(self, kin, what):
        if not isinstance(kin, Children):
            raise BadDate("kin")
        if not is_word(what, ("death",)) and not is_whole(what, 0, MOST):
            raise BadDate("what")
        super().__init__(1, (kin.life,), (), 1)
        self.kin = kin
        self.what = what

    def year_on(self, record):
        """Return the greatest of the closing and the members' years."""
        return max([self.kin.closing(record), *last_years(record, self.kin.members(record), self.what)])

    def __eq__(self, other):
        return isinstance(other, Last) and self.kin == other.kin and self.what == other.what

    def __str__(self):
        return f"last {what_text(self.what)} of {self.kin}"


class Plus(Date):
    """So many years behind a date."""

    def __init__(self, date, years):
        if not isinstance(date, Date):
            raise BadDate("date")
        if not is_whole(years, 0, MOST):
            raise BadDate("years")
        if date.depth >= DEEPEST:
            raise BadDate("depth")
        super().__init__(date.depth + 1, date.lives_named, date.happenings, date.class_dates)
        self.date = date
        self.years = years

    def year_on(self, record):
        """Return the year behind the date's year, None if the date never comes."""
        start = self.date.year_on(record)
        return None if start is None else start + self.years

    def __eq__(self, other):
        return isinstance(other, Plus) and self.date == other.date and self.years == other.years

    def __str__(self):
        return f"({self.date} plus {self.years})"


class Earlier(Date):
    """The earliest of those of its dates that come."""

    def __init__(self, *dates):
        require_inner(dates)
        super().__init__(1 + max([date.depth for date in dates]), lives_of(dates), happenings_of(dates),
                         sum([date.class_dates for date in dates]))
        self.dates = dates

    def year_on(self, record):
        """Return the least year, None if no date comes."""
        return min([year for year in years_on(self.dates, record) if year is not None], default=None)

    def __eq__(self, other):
        return isinstance(other, Earlier) and self.dates == other.dates

    def __str__(self):
        return f"earlier({dates_text(self.dates)})"


class Later(Date):
    """The latest of its dates, if all of them come."""

    def __init__(self, *dates):
        require_inner(dates)
        super().__init__(1 + max([date.depth for date in dates]), lives_of(dates), happenings_of(dates),
                         sum([date.class_dates for date in dates]))
        self.dates = dates

    def year_on(self, record):
        """Return the greatest year, None if one of the dates never comes."""
        found = years_on(self.dates, record)
        return None if None in found else max(found)

    def __eq__(self, other):
        return isinstance(other, Later) and self.dates == other.dates

    def __str__(self):
        return f"later({dates_text(self.dates)})"


def is_word(what, words):
    """Return whether the thing is one of the words."""
    return isinstance(what, str) and what in words


def what_text(what):
    """Return the words for the second parameter of First and Last."""
    return what if isinstance(what, str) else f"age {what}"


def first_years(record, members, what):
    """Return the years of the members that have one, for First."""
    if what == "birth":
        return [record.birth(member) for member in members]
    if what == "death":
        return [record.death(member) for member in members]
    return [record.birth(member) + what for member in members
            if record.birth(member) + what <= record.death(member)]


def last_years(record, members, what):
    """Return the years of all members, for Last."""
    if what == "death":
        return [record.death(member) for member in members]
    return [min(record.birth(member) + what, record.death(member)) for member in members]


def require_inner(dates):
    """Raise BadDate unless the things can be the dates of an Earlier or a Later."""
    if not 2 <= len(dates) <= 4:
        raise BadDate("many")
    if not all([isinstance(date, Date) for date in dates]):
        raise BadDate("date")
    if max([date.depth for date in dates]) >= DEEPEST:
        raise BadDate("depth")


def lives_of(dates):
    """Return the names of the lives in the dates, each once."""
    return each_once([name for date in dates for name in date.lives_named])


def happenings_of(dates):
    """Return the names of the happenings in the dates, each once."""
    return each_once([name for date in dates for name in date.happenings])


def years_on(dates, record):
    """Return the years of the dates, None for those that never come."""
    return [date.year_on(record) for date in dates]


def dates_text(dates):
    """Return the texts of the dates with commas between them."""
    return ", ".join([str(date) for date in dates])
