"""The state of a gift while a record grows: waiting, sure, settled or fallen [8.1] to [8.6]."""

from lastlife.agreement import agree
from lastlife.calls import called_chain, called_measuring, called_year
from lastlife.futures import Lags, last_start, some_record
from lastlife.record import Record

WAITING = "waiting"
SURE = "sure"
SETTLED = "settled"
FALLEN = "fallen"


class Fall:
    """A record in which a gift falls, and another one that agrees up to its deadline and has other takers."""

    def __init__(self, record, other):
        self.record = record
        self.other = other


class Waiting:
    """A gift along a record, up to a year."""

    def __init__(self, deed, name, record, year, measuring):
        self.deed = deed
        self.name = name
        self.gifts = called_chain(deed, name, record)
        self.since = called_year(record, year)
        self.measuring = called_measuring(record, measuring)
        self.past = record.until(self.since)
        self.limit = record.customs.limit

    def other_future(self, past, year):
        """Return a record that agrees with a past up to a year and has other takers than its rows up to it, or None."""
        start = past.until(year)
        takers = self.deed.takers(self.name, start)
        return some_record(start, year, self.gifts, lambda question: question.differs(takers))

    def is_settled(self, year):
        """Return whether the gift is settled at a year."""
        return self.other_future(self.past, year) is None

    def lags_from(self, year):
        """Return the lags of the gift from a year on."""
        return Lags(self.past.until(year), year, self.gifts, self.measuring)

    def is_safe(self, year):
        """Return whether the number of the gift is at most the limit from a year on."""
        return self.lags_from(year).look(lambda case: case.tips(), self.limit, self.limit + 1) <= self.limit

    def has_fallen(self):
        """Return whether the deadline has come by the year, and the gift is open at it."""
        deadline = deadline_of(self.past, self.measuring)
        return deadline is not None and deadline <= self.since and not self.is_settled(deadline)

    def state(self):
        """Return the state of the gift at the year."""
        if self.has_fallen():
            return FALLEN
        if self.is_settled(self.since):
            return SETTLED
        return SURE if self.is_safe(self.since) else WAITING

    def fall(self):
        """Return a Fall, None if the gift is settled or sure."""
        if self.has_fallen():
            return self.fall_at(deadline_of(self.past, self.measuring))
        lags = self.lags_from(self.since)
        if self.is_settled(self.since) or lags.look(lambda case: case.tips(), self.limit, self.limit + 1) <= self.limit:
            return None
        record = lags.shown(self.limit + 1, lambda one: sorted(self.deed.takers(self.name, one)))
        return Fall(record, record.shorter())

    def fall_at(self, deadline):
        """Return a Fall whose record is the one up to the year, in which the gift is open at the deadline."""
        start = self.past.until(deadline)
        if sorted(self.deed.takers(self.name, start)) != sorted(self.deed.takers(self.name, self.past)):
            return Fall(self.past, start)
        return Fall(self.past, self.other_future(self.past, deadline))

    def first_mark(self, holds):
        """Return the first year of a row, or 0, at which this holds, and the one ahead; None for one that is not there.

        What holds at one of these years holds at all later ones.
        """
        marks = [0, *[row[1] for row in self.past.rows]]
        low, high = 0, len(marks)
        while low < high:
            middle = (low + high) // 2
            if holds(marks[middle]):
                high = middle
            else:
                low = middle + 1
        return (marks[low] if low < len(marks) else None, marks[low - 1] if low > 0 else None)

    def first_year(self, holds, last):
        """Return the least year at which what holds from then on holds, None if there is none up to the year.

        For the year of a row at which it does not hold, last tells the last year in which the next rows could begin
        and keep it from holding; so if there are no next rows up to that year, it holds there.
        """
        mark, before = self.first_mark(holds)
        if before is None:
            return mark
        most = self.since + 1 if mark is None else mark
        found = min(last(before, most), most)
        return found if found <= self.since else None

    def settled_since(self):
        """Return the least year at which the gift is settled, None if there is none up to the year."""
        return self.first_year(lambda year: self.is_settled(year),
                               lambda before, most: self.last_open(before, most))

    def last_open(self, year, most):
        """Return the last year in which the next rows behind a year can begin if they bring other takers."""
        start = self.past.until(year)
        takers = self.deed.takers(self.name, start)
        return last_start(start, year, self.gifts, lambda question: question.differs(takers), most)

    def safe_since(self):
        """Return the least year from which on the number is at most the limit, None if there is none."""
        return self.first_year(lambda year: self.is_safe(year),
                               lambda before, most: self.last_unsafe(before, most))

    def last_unsafe(self, year, most):
        """Return the last year in which the next rows behind a year can begin if a lag is above the limit."""
        return self.lags_from(year).look_for_start(lambda case: case.tips(), self.limit + 1, most)

    def all_changes(self):
        """Return the pairs of a year and the state that begins there."""
        if self.has_fallen():
            return ((0, WAITING), (deadline_of(self.past, self.measuring), FALLEN))
        settled = self.settled_since()
        safe = self.safe_since()
        found = [] if safe == 0 else [(0, WAITING)]
        if safe is not None and safe != settled:
            found.append((safe, SURE))
        if settled is not None:
            found.append((settled, SETTLED))
        return tuple(found)

    def fault(self, answer):
        """Return the word for a Fall or None, None if it is right."""
        if answer is None:
            return "none" if self.state() in (WAITING, FALLEN) else None
        if not isinstance(answer.record, Record) or not agree(answer.record, self.past, self.since):
            return "agree"
        deadline = deadline_of(answer.record, self.measuring)
        if deadline is None:
            return "alive"
        if not isinstance(answer.other, Record) or not agree(answer.other, answer.record, deadline):
            return "other"
        takers = sorted(self.deed.takers(self.name, answer.record))
        return "takers" if takers == sorted(self.deed.takers(self.name, answer.other)) else None


def deadline_of(record, measuring):
    """Return the last death of the measuring lives and the limit behind it, None if one of them is alive."""
    if len([life for life in measuring if record.is_alive(life)]) > 0:
        return None
    return record.last_death(measuring) + record.customs.limit


def state_at(deed, name, record, *, year=None, measuring=None):
    """Return the state of the gift at the year."""
    return Waiting(deed, name, record, year, measuring).state()


def falling(deed, name, record, *, year=None, measuring=None):
    """Return a record in which the gift falls as a Fall, None if there is none."""
    return Waiting(deed, name, record, year, measuring).fall()


def falling_fault(deed, name, record, answer, *, year=None, measuring=None):
    """Return the word for a Fall or None, None if falling could return it."""
    return Waiting(deed, name, record, year, measuring).fault(answer)


def settled_since(deed, name, record, *, year=None):
    """Return the least year at which the gift is settled, None if there is none up to the year."""
    return Waiting(deed, name, record, year, None).settled_since()


def state_changes(deed, name, record, *, year=None, measuring=None):
    """Return the pairs of a year and the state of the gift from this year on."""
    return Waiting(deed, name, record, year, measuring).all_changes()
