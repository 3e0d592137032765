"""How great the lags of a gift are by what the last row does, and whether a Reach tells so [6.2] [6.6] [6.8]."""

from lastlife.agreement import agree
from lastlife.bounds import NO_BOUND
from lastlife.calls import called_chain, called_measuring, called_year
from lastlife.futures import ABOVE_ALL, Lags
from lastlife.lateness import Reach
from lastlife.record import Record


class Reaches:
    """The lags of a gift from a beginning and for some measuring lives."""

    def __init__(self, deed, name, record, year, measuring, is_beside=False):
        chain = called_chain(deed, name, record)
        self.deed = deed
        self.name = name
        self.since = called_year(record, year)
        self.measuring = called_measuring(record, measuring)
        self.past = record.until(self.since)
        self.lags = Lags(self.past, self.since, chain, self.measuring, is_beside)

    def asked(self, case):
        """Return the sentence that the row in question tips the gift."""
        return case.tips()

    def told(self, record):
        """Return what is tipped: the takers of the gift in a record, in an order that does not hang on it."""
        return sorted(self.deed.takers(self.name, record))

    def look(self, floor, enough=NO_BOUND):
        """Return the greatest lag above the floor, NO_BOUND if there is none, or the floor."""
        return self.lags.look(lambda case: self.asked(case), floor, enough)

    def exceeds(self, floor):
        """Return whether there is a lag greater than the floor."""
        return self.look(floor, floor + 1) > floor

    def shown(self, least):
        """Return a record with such a lag at least, once one has been found."""
        return self.lags.shown(least, lambda record: self.told(record))

    def greatest(self):
        """Return the greatest lag, 0 if there is none, None if there is no greatest one."""
        found = self.look(0)
        return None if found == NO_BOUND else found

    def as_reach(self):
        """Return the greatest lag and a record that has it, as a Reach."""
        found = self.greatest()
        if found == 0:
            return Reach(0)
        return Reach(found, self.shown(self.past.customs.limit + 1 if found is None else found))

    def fault(self, found):
        """Return the word for a Reach, None if it is right."""
        told = found.number
        if told is not None and not (isinstance(told, int) and not isinstance(told, bool) and told >= 0):
            return "number"
        if told == 0 and found.record is not None:
            return "record"
        what = None if told == 0 else self.record_fault(found.record, told)
        if what is not None:
            return what
        if told is None:
            return None if self.exceeds(ABOVE_ALL) else "endless"
        return "greatest" if self.exceeds(told) else None

    def record_fault(self, record, told):
        """Return the word for the record of a Reach whose number is not 0, or None."""
        what = going_fault(record, self.past, self.since, self.measuring)
        if what is not None:
            return what
        lag = record.end - record.last_death(self.measuring)
        if len(record) == 0 or record.end <= self.since:
            return "lag"
        if lag != told if told is not None else lag <= self.past.customs.limit:
            return "lag"
        return self.tip_fault(record)

    def tip_fault(self, record):
        """Return the word for a record whose last row does not tip what is told, or None."""
        return "takers" if self.told(record) == self.told(record.shorter()) else None


def going_fault(record, past, since, measuring):
    """Return the word for a thing that is no record that goes on and in which the measuring lives are dead, or None."""
    if not isinstance(record, Record) or record.lives != past.lives:
        return "record"
    if not agree(record, past, since):
        return "agree"
    return "alive" if len([life for life in measuring if record.is_alive(life)]) > 0 else None
