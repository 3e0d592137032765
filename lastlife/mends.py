"""Mends: which changes make a deed good, and why no fewer of them do [10.3] to [10.9]."""

from lastlife.changes import changed, is_change
from lastlife.deed import Deed, require_deed_lives
from lastlife.errors import BadChange, BadPool
from lastlife.gifts import deals_of
from lastlife.measuring import holds_all, sets_of
from lastlife.reaches import Reaches
from lastlife.record import Record
from lastlife.years import is_whole

MOST_CHANGES = 4


class Mend:
    """A good lot, the deed that it makes, and for each smaller lot within what shows that it is not good."""

    def __init__(self, lot, deed, breaches):
        self.lot = lot
        self.deed = deed
        self.breaches = breaches


class Goodness:
    """Which gifts are good over some lives; gifts of equal chains are looked at but once."""

    def __init__(self, lives):
        self.empty = Record(lives)
        self.known = []

    def is_good(self, deed, name):
        """Return whether the gift is good from the record without rows."""
        deals = deals_of(deed.chain(name))
        for other, verdict in self.known:
            if other == deals:
                return verdict
        verdict = not self.reaches(deed, name).exceeds(self.empty.customs.limit)
        self.known.append((deals, verdict))
        return verdict

    def reaches(self, deed, name):
        """Return the lags of the gift."""
        return Reaches(deed, name, self.empty, None, None)

    def bad_names(self, deed):
        """Return the names of the gifts that are not good."""
        return tuple([name for name in deed.names if not self.is_good(deed, name)])

    def first_bad_name(self, deed):
        """Return the name of the first gift that is not good, None if there is none."""
        for name in deed.names:
            if not self.is_good(deed, name):
                return name
        return None

    def breach(self, deed, name):
        """Return a record in which a gift that is not good is open for too long."""
        reaches = self.reaches(deed, name)
        most = self.empty.customs.limit
        return reaches.shown(most + 1) if reaches.exceeds(most) else None


class Lots:
    """The lots of a pool of changes, with what they make of a deed."""

    def __init__(self, deed, lives, pool):
        require_deed_lives(deed, lives)
        require_pool(pool)
        self.deed = deed
        self.lives = lives
        self.choices = pool
        self.goodness = Goodness(lives)
        self.lots = [(), *sets_of(tuple(list(range(len(pool)))))]
        self.made = {lot: self.make(lot) for lot in self.lots}
        self.first_bad = {}

    def make(self, lot):
        """Return the changed deed, or the index in the pool and the word of the change that cannot be made."""
        try:
            return changed(self.deed, self.lives, [self.choices[index] for index in lot])
        except BadChange as wrong:
            return (lot[wrong.index], wrong.what)

    def can_be_made(self, lot):
        """Return whether all changes of a lot can be made."""
        return isinstance(self.made[lot], Deed)

    def is_good(self, lot):
        """Return whether a lot is good."""
        return self.can_be_made(lot) and self.first_bad_name(lot) is None

    def first_bad_name(self, lot):
        """Return the name of the first gift that is not good in the deed of a lot, which is looked for but once."""
        if lot not in self.first_bad:
            self.first_bad[lot] = self.goodness.first_bad_name(self.made[lot])
        return self.first_bad[lot]

    def within(self, lot):
        """Return the smaller lots within a lot."""
        return [other for other in self.lots if other != lot and holds_all(lot, other)]

    def told_row(self, lot):
        """Return what all_lots tells of a lot."""
        if not self.can_be_made(lot):
            return (lot, "none", self.made[lot])
        names = self.goodness.bad_names(self.made[lot])
        return (lot, "good" if len(names) == 0 else "bad", names)

    def breach(self, part):
        """Return what shows that a lot is not good."""
        if not self.can_be_made(part):
            return (part, None, None)
        name = self.first_bad_name(part)
        return (part, name, self.goodness.breach(self.made[part], name))

    def is_breach(self, part, name, record):
        """Return whether this shows that a lot is not good."""
        if not self.can_be_made(part):
            return name is None and record is None
        return name in self.made[part].names and is_late(self.made[part], name, self.lives, record)

    def fault(self, mend):
        """Return the word for a Mend, None if it is right."""
        if not is_lot(mend.lot, len(self.choices)):
            return "lot"
        if not self.can_be_made(mend.lot):
            return "made"
        if mend.deed != self.made[mend.lot]:
            return "deed"
        if not self.is_good(mend.lot):
            return "good"
        if [row[0] for row in mend.breaches] != self.within(mend.lot):
            return "parts"
        return None if all([self.is_breach(row[0], row[1], row[2]) for row in mend.breaches]) else "breach"


def require_pool(pool):
    """Raise BadPool unless this is a pool of changes."""
    if not isinstance(pool, (list, tuple)) or not 1 <= len(pool) <= MOST_CHANGES:
        raise BadPool("pool", None)
    for index, change in enumerate(pool):
        if not is_change(change):
            raise BadPool("change", index)


def is_lot(thing, many):
    """Return whether the thing is a tuple of indexes below a number, ascending."""
    if not isinstance(thing, tuple) or not all([is_whole(index, 0, many - 1) for index in thing]):
        return False
    return list(thing) == sorted(set(list(thing)))


def is_late(deed, name, lives, record):
    """Return whether the thing is a record whose last row, behind the limit, decides the gift."""
    if not isinstance(record, Record) or record.lives != lives or len(record) == 0:
        return False
    # While a life is alive its death stands behind all rows.
    if record.end - record.last_death(lives.names) <= lives.customs.limit:
        return False
    return sorted(deed.takers(name, record)) != sorted(deed.takers(name, record.shorter()))


def bad_gifts(deed, lives):
    """Return the names of the gifts that are not good from the record without rows."""
    require_deed_lives(deed, lives)
    return Goodness(lives).bad_names(deed)


def is_good_deed(deed, lives):
    """Return whether all gifts are good from the record without rows."""
    return len(bad_gifts(deed, lives)) == 0


def all_lots(deed, lives, pool):
    """Return the rows of all lots: the lot, whether it is good, bad or cannot be made, and why."""
    lots = Lots(deed, lives, pool)
    return tuple([lots.told_row(lot) for lot in lots.lots])


def spoiling(deed, lives, pool):
    """Return the pairs of a good lot and an index with which it is not good."""
    lots = Lots(deed, lives, pool)
    found = []
    for lot in lots.lots:
        if lots.is_good(lot):
            more = [index for index in range(len(pool)) if index not in lot]
            found.extend([(lot, index) for index in more if not lots.is_good(tuple(sorted([*lot, index])))])
    return tuple(found)


def least_mends(deed, lives, pool):
    """Return a Mend for each good lot that contains no smaller good lot."""
    lots = Lots(deed, lives, pool)
    found = []
    for lot in lots.lots:
        # Smaller lots come first, so those that are good within this one contain one of the mends.
        if not any([holds_all(lot, mend.lot) for mend in found]) and lots.is_good(lot):
            found.append(Mend(lot, lots.made[lot], tuple([lots.breach(part) for part in lots.within(lot)])))
    return tuple(found)


def mend_fault(deed, lives, pool, mend):
    """Return the word for a Mend, None if least_mends could return it."""
    return Lots(deed, lives, pool).fault(mend)
