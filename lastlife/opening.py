"""Whether a gift is open or settled at a year of a record [4.1] to [4.6]."""

from lastlife.agreement import agree
from lastlife.calls import called_chain, called_year
from lastlife.errors import NoPerson
from lastlife.futures import some_record
from lastlife.record import Record


class Settled:
    """The takers that a gift has in all records that can still come."""

    def __init__(self, takers):
        self.takers = takers


class Open:
    """Two records that can still come, in which a gift has other takers."""

    def __init__(self, one, other):
        self.one = one
        self.other = other


class View:
    """A gift at a year of a record: the rows up to the year, and what can still come."""

    def __init__(self, deed, name, record, year):
        self.gifts = called_chain(deed, name, record)
        self.since = called_year(record, year)
        self.past = record.until(self.since)
        self.present = deed.takers(name, self.past)

    def require_known(self, person):
        """Raise NoPerson unless this is a known person."""
        if not isinstance(person, str) or person not in self.past.persons:
            raise NoPerson(person)

    def future(self, ask):
        """Return a record that can still come and for which the sentence that ask makes holds, or None."""
        return some_record(self.past, self.since, self.gifts, ask)

    def other_future(self):
        """Return a record with other takers than the record up to the year, None if there is none."""
        return self.future(lambda question: question.differs(self.present))

    def turned(self, person):
        """Return a record in which a known person takes if it does not do so now, or the other way about, or None."""
        if person in self.present:
            return self.future(lambda question: question.passes_over(person))
        return self.future(lambda question: question.goes_to([person]))

    def future_of_newcomers(self):
        """Return a record in which a newcomer takes, None if there is none."""
        return self.future(lambda question: question.goes_to(question.newcomers()))


def is_open(deed, name, record, *, year=None):
    """Return whether the gift is open."""
    return View(deed, name, record, year).other_future() is not None


def state(deed, name, record, *, year=None):
    """Return whether the gift is open, as a Settled or an Open."""
    view = View(deed, name, record, year)
    other = view.other_future()
    return Settled(view.present) if other is None else Open(other, view.past)


def state_fault(deed, name, record, told, *, year=None):
    """Return the word for an answer of state, None if it is right."""
    view = View(deed, name, record, year)
    if isinstance(told, Settled):
        if view.other_future() is not None:
            return "open"
        return "takers" if told.takers != view.present else None
    if not goes_on(told.one, record, view.since):
        return "one"
    if not goes_on(told.other, record, view.since):
        return "other"
    return None if have_other_takers(deed, name, told.one, told.other) else "takers"


def goes_on(thing, record, year):
    """Return whether the thing is a record that agrees with the record up to the year."""
    return isinstance(thing, Record) and agree(thing, record, year)


def have_other_takers(deed, name, one, other):
    """Return whether the gift has other takers in two records, in whatever order."""
    return sorted(deed.takers(name, one)) != sorted(deed.takers(name, other))


def standing(deed, name, record, person, *, year=None):
    """Return whether a known person takes in all records, in none or in some."""
    view = View(deed, name, record, year)
    view.require_known(person)
    if view.turned(person) is not None:
        return "open"
    return "takes" if person in view.present else "out"


def newcomers_may_take(deed, name, record, *, year=None):
    """Return whether a newcomer takes in some record."""
    return View(deed, name, record, year).future_of_newcomers() is not None


def two_ways(deed, name, record, person, *, year=None):
    """Return a record in which the person takes and one in which it does not, None unless there are both."""
    view = View(deed, name, record, year)
    if person is None:
        found = view.future_of_newcomers()
        return None if found is None else (found, view.past)
    view.require_known(person)
    found = view.turned(person)
    if found is None:
        return None
    return (view.past, found) if person in view.present else (found, view.past)


def open_gifts(deed, record, *, year=None):
    """Return the names of the gifts that are open."""
    for name in deed.names:
        called_chain(deed, name, record)
    return tuple([name for name in deed.names if is_open(deed, name, record, year=year)])
