"""The errors that many functions raise in one order, and what their arguments stand for [0.10]."""

from lastlife.errors import BadMeasuring, BadYear
from lastlife.lives import require_lives
from lastlife.years import is_whole

MOST_CALL_YEAR = 10000000


def called_chain(deed, name, record):
    """Return the chain of the gift, whose gifts name lives of the record."""
    chain = deed.chain(name)
    require_lives(record.lives, deed.chain_lives(name))
    return chain


def called_year(record, year):
    """Return the year that is meant: None stands for the end of the record."""
    if year is None:
        return record.end
    if not is_whole(year, 0, MOST_CALL_YEAR):
        raise BadYear(year)
    return year


def called_measuring(record, measuring):
    """Return the measuring lives that are meant: None stands for all lives."""
    if measuring is None:
        return record.lives.names
    if len(measuring) == 0:
        raise BadMeasuring("empty")
    told = {}
    for life in measuring:
        if not record.lives.has(life):
            raise BadMeasuring("life")
        if life in told:
            raise BadMeasuring("double")
        told[life] = True
    return tuple(list(told))
