"""How late a date can come behind the last death of the measuring lives [6.11] to [6.13]."""

from lastlife.calls import called_measuring, called_year
from lastlife.cast import chain_cast
from lastlife.delays import ENDLESS, NEVER_COMES, WITHIN, latest_of
from lastlife.futures import Scene
from lastlife.gifts import Gift
from lastlife.lateness import Latest
from lastlife.lives import require_lives
from lastlife.reaches import going_fault
from lastlife.takers import Named
from lastlife.values import comes
from lastlife.years import LATE


class Delays:
    """A date at a beginning, and its delays in the records that go on from it."""

    def __init__(self, date, record, year, measuring):
        require_lives(record.lives, date.lives_named)
        self.date = date
        self.since = called_year(record, year)
        self.measuring = called_measuring(record, measuring)
        self.past = record.until(self.since)

    def latest(self):
        """Return how late the date can come, as a Latest."""
        # The date is asked for as that of a gift that nothing else hangs on.
        chain = (Gift("date", Named(self.past.lives.names[0]), self.date),)
        scene = Scene(self.past, self.since, chain_cast(chain, self.past), self.measuring)
        time = scene.question(chain).last.time
        return latest_of(scene, comes(time), time)

    def date_fault(self, found):
        """Return the word for the record of a Latest that is not "never", or None."""
        what = going_fault(found.record, self.past, self.since, self.measuring)
        if what is not None:
            return what
        year = self.date.year(found.record)
        if year is None:
            return "date"
        delay = year - found.record.last_death(self.measuring)
        if found.kind == WITHIN:
            return None if year < LATE and delay == found.years else "date"
        return None if delay > self.past.customs.limit else "date"

    def fault(self, found):
        """Return the word for a Latest, None if it is right."""
        if not isinstance(found.kind, str) or found.kind not in (NEVER_COMES, WITHIN, ENDLESS):
            return "kind"
        if not has_right_years(found):
            return "years"
        if found.kind == NEVER_COMES and found.record is not None:
            return "record"
        what = None if found.kind == NEVER_COMES else self.date_fault(found)
        if what is not None:
            return what
        best = self.latest()
        return None if best == Latest(found.kind, found.years, best.record) else "greatest"


def has_right_years(found):
    """Return whether the years are a whole number for "within", and None for the other kinds."""
    if found.kind == WITHIN:
        return isinstance(found.years, int) and not isinstance(found.years, bool)
    return found.years is None


def latest(date, record, *, year=None, measuring=None):
    """Return how late the date can come, as a Latest."""
    return Delays(date, record, year, measuring).latest()


def latest_fault(date, record, found, *, year=None, measuring=None):
    """Return the word for a Latest, None if latest could return it."""
    return Delays(date, record, year, measuring).fault(found)
