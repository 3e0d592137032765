"""How late a gift can be open behind the last death of the measuring lives [6.1] to [6.8]."""

from lastlife.errors import BadYears
from lastlife.reaches import Reaches
from lastlife.years import MOST, is_whole


def number(deed, name, record, *, year=None, measuring=None):
    """Return the number of the gift, None if it is endless."""
    return Reaches(deed, name, record, year, measuring).greatest()


def is_good(deed, name, record, *, year=None, measuring=None):
    """Return whether the gift is not endless and its number is at most the limit."""
    return not Reaches(deed, name, record, year, measuring).exceeds(record.customs.limit)


def reach(deed, name, record, *, year=None, measuring=None):
    """Return the number of the gift and a record that has it, as a Reach."""
    return Reaches(deed, name, record, year, measuring).as_reach()


def two_families(deed, name, record, years, *, year=None, measuring=None):
    """Return a record that decides the gift with a lag of at least so many years, None if there is none."""
    reaches = Reaches(deed, name, record, year, measuring)
    if not is_whole(years, 1, MOST):
        raise BadYears(years)
    return reaches.shown(years) if reaches.exceeds(years - 1) else None


def reach_fault(deed, name, record, found, *, year=None, measuring=None):
    """Return the word for a Reach, None if reach could return it."""
    return Reaches(deed, name, record, year, measuring).fault(found)
