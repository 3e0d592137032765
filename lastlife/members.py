"""How late it can be open whether a person takes a gift [7.1] to [7.4]."""

from lastlife.bounds import NO_BOUND
from lastlife.errors import NoPerson, NotAClass
from lastlife.reaches import Reaches
from lastlife.takers import Mate, Named


class MemberReaches(Reaches):
    """The lags of the records whose last row decides a known person, or the newcomers if the person is None."""

    def __init__(self, deed, name, record, year, measuring):
        super().__init__(deed, name, record, year, measuring)
        self.person = None

    def of_known(self, person):
        """Take this person instead of the newcomers; raise NoPerson unless it is known or None."""
        if person is not None and (not isinstance(person, str) or person not in self.past.persons):
            raise NoPerson(person)
        self.person = person

    def asked(self, case):
        """Return the sentence that the row in question decides the person."""
        return case.tips(case.newcomers() if self.person is None else [self.person])

    def told(self, record):
        """Return those of the person, or of the newcomers, who take in the record."""
        takers = self.deed.takers(self.name, record)
        if self.person is not None:
            return [person for person in takers if person == self.person]
        return sorted([person for person in takers if person not in self.past.persons])

    def members(self):
        """Return the known members of the kin of the gift's taker, and None for the newcomers."""
        return [*self.deed[self.name].taker.kin.members(self.past), None]


def person_reaches(deed, name, record, person, year, measuring):
    """Return the lags of the records that decide the person, with the errors of a call."""
    reaches = MemberReaches(deed, name, record, year, measuring)
    reaches.of_known(person)
    return reaches


def require_class(deed, name):
    """Raise NotAClass if the taker of the gift names no kin."""
    if isinstance(deed[name].taker, (Named, Mate)):
        raise NotAClass(name)


def class_reaches(deed, name, record, year, measuring):
    """Return the lags of a gift whose taker names a kin, with the errors of a call."""
    reaches = MemberReaches(deed, name, record, year, measuring)
    require_class(deed, name)
    return reaches


def member_number(deed, name, record, person, *, year=None, measuring=None):
    """Return the greatest lag of the records that decide the person, None if it is endless."""
    return person_reaches(deed, name, record, person, year, measuring).greatest()


def member_reach(deed, name, record, person, *, year=None, measuring=None):
    """Return the member number and a record that has it, as a Reach."""
    return person_reaches(deed, name, record, person, year, measuring).as_reach()


def member_fault(deed, name, record, person, found, *, year=None, measuring=None):
    """Return the word for a Reach, None if member_reach could return it."""
    return person_reaches(deed, name, record, person, year, measuring).fault(found)


def member_numbers(deed, name, record, *, year=None, measuring=None):
    """Return the pairs of a known member, at last None for the newcomers, and the member number."""
    reaches = class_reaches(deed, name, record, year, measuring)
    return tuple([(person, None if found == NO_BOUND else found)
                  for person, found in looked_for_all(reaches, 0, NO_BOUND)])


def looked_for_all(reaches, floor, enough):
    """Return the pairs of a member and the greatest lag above the floor at which its records decide it."""
    found = []
    for person in reaches.members():
        reaches.of_known(person)
        found.append((person, reaches.look(floor, enough)))
    return found
