"""How late a gift can be open behind the last death of the measuring lives [6.1] to [6.8]."""

from lastlife.agreement import agree
from lastlife.bounds import NO_BOUND
from lastlife.calls import called_chain, called_measuring, called_year
from lastlife.errors import BadYears
from lastlife.futures import ABOVE_ALL, Lags
from lastlife.lateness import Reach
from lastlife.record import Record
from lastlife.years import MOST, is_whole


class Reaches:
    """The lags of a gift from a beginning and for some measuring lives."""

    def __init__(self, deed, name, record, year, measuring):
        chain = called_chain(deed, name, record)
        self.deed = deed
        self.name = name
        self.since = called_year(record, year)
        self.measuring = called_measuring(record, measuring)
        self.past = record.until(self.since)
        self.lags = Lags(self.past, self.since, chain, self.measuring)

    def sorted_takers(self, record):
        """Return the takers of the gift in a record, in an order that does not hang on it."""
        return sorted(self.deed.takers(self.name, record))

    def exceeds(self, floor):
        """Return whether there is a lag greater than the floor."""
        return self.lags.look(floor, floor + 1) > floor

    def shown(self, least):
        """Return a record with such a lag at least, once one has been found."""
        return self.lags.shown(least, lambda record: self.sorted_takers(record))

    def fault(self, found):
        """Return the word for a Reach, None if it is right."""
        told = found.number
        if told is not None and not (isinstance(told, int) and not isinstance(told, bool) and told >= 0):
            return "number"
        if told == 0 and found.record is not None:
            return "record"
        what = None if told == 0 else self.record_fault(found.record, told)
        if what is not None:
            return what
        if told is None:
            return None if self.exceeds(ABOVE_ALL) else "endless"
        return "greatest" if self.exceeds(told) else None

    def record_fault(self, record, told):
        """Return the word for the record of a Reach whose number is not 0, or None."""
        if not isinstance(record, Record) or record.lives != self.past.lives:
            return "record"
        if not agree(record, self.past, self.since):
            return "agree"
        if len([life for life in self.measuring if record.is_alive(life)]) > 0:
            return "alive"
        lag = record.end - record.last_death(self.measuring)
        if len(record) == 0 or record.end <= self.since:
            return "lag"
        if lag != told if told is not None else lag <= self.past.customs.limit:
            return "lag"
        return "takers" if self.sorted_takers(record) == self.sorted_takers(record.shorter()) else None


def number(deed, name, record, *, year=None, measuring=None):
    """Return the number of the gift, None if it is endless."""
    found = Reaches(deed, name, record, year, measuring).lags.look(0)
    return None if found == NO_BOUND else found


def is_good(deed, name, record, *, year=None, measuring=None):
    """Return whether the gift is not endless and its number is at most the limit."""
    return not Reaches(deed, name, record, year, measuring).exceeds(record.customs.limit)


def reach(deed, name, record, *, year=None, measuring=None):
    """Return the number of the gift and a record that has it, as a Reach."""
    reaches = Reaches(deed, name, record, year, measuring)
    found = reaches.lags.look(0)
    if found == 0:
        return Reach(0)
    if found == NO_BOUND:
        return Reach(None, reaches.shown(record.customs.limit + 1))
    return Reach(found, reaches.shown(found))


def two_families(deed, name, record, years, *, year=None, measuring=None):
    """Return a record that decides the gift with a lag of at least so many years, None if there is none."""
    reaches = Reaches(deed, name, record, year, measuring)
    if not is_whole(years, 1, MOST):
        raise BadYears(years)
    return reaches.shown(years) if reaches.exceeds(years - 1) else None


def reach_fault(deed, name, record, found, *, year=None, measuring=None):
    """Return the word for a Reach, None if reach could return it."""
    return Reaches(deed, name, record, year, measuring).fault(found)
