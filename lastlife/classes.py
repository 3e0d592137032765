"""The members of a class, judged each for itself or all together [7.7] [7.8]."""

from lastlife.agreement import agree
from lastlife.errors import BadCustom, BadLater
from lastlife.members import class_reaches
from lastlife.record import Record


class Judged:
    """The good and the bad members of a class by a custom."""

    ALL = "all"
    EACH = "each"

    def __init__(self, custom, good, bad):
        self.custom = custom
        self.good = good
        self.bad = bad

    def __eq__(self, other):
        return (isinstance(other, Judged)
                and self.custom == other.custom
                and self.good == other.good
                and self.bad == other.bad)


def judged_members(reaches, custom):
    """Return the members as judged by the custom; raise BadCustom if it is none."""
    if not isinstance(custom, str) or custom not in (Judged.ALL, Judged.EACH):
        raise BadCustom(custom)
    members = reaches.members()
    bad = bad_members(reaches, members)
    if custom == Judged.ALL and len(bad) > 0:
        bad = members
    return Judged(custom, tuple([member for member in members if member not in bad]), tuple(bad))


def bad_members(reaches, members):
    """Return those of the members whose number is above the limit."""
    found = []
    for member in members:
        reaches.of_known(member)
        if reaches.exceeds(reaches.past.customs.limit):
            found.append(member)
    return found


def judged(deed, name, record, *, custom, year=None, measuring=None):
    """Return which members of the class are good by the custom."""
    return judged_members(class_reaches(deed, name, record, year, measuring), custom)


def judged_takers(deed, name, record, later, *, custom, year=None, measuring=None):
    """Return the takers in a later record who keep the gift."""
    reaches = class_reaches(deed, name, record, year, measuring)
    verdict = judged_members(reaches, custom)
    if not isinstance(later, Record) or not agree(later, record, reaches.since):
        raise BadLater(later)
    known = reaches.past.persons
    return tuple([person for person in deed.takers(name, later)
                  if (person if person in known else None) in verdict.good])
