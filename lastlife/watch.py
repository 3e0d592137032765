"""Watches, which follow a record whose rows become known late and in any order [8.7] to [8.13]."""

from lastlife.calls import MOST_CALL_YEAR, called_measuring
from lastlife.deed import Deed
from lastlife.errors import BadWatch, BadYear, NotTrue
from lastlife.facts import is_row, place
from lastlife.lives import Lives, require_lives
from lastlife.record import Record, record_fault
from lastlife.trial import Trial
from lastlife.waiting import SETTLED, Waiting, deadline_of
from lastlife.years import is_whole


class Watch:
    """A deed, a record that can be amended, the year up to which it is told, and the states of the gifts so far."""

    STATES = ("waiting", "sure", "settled", "fallen")
    FINAL = ("settled", "fallen")

    def __init__(self, deed, lives, *, measuring=None):
        if not isinstance(deed, Deed):
            raise BadWatch("deed")
        if not isinstance(lives, Lives):
            raise BadWatch("lives")
        for name in deed.names:
            require_lives(lives, deed.chain_lives(name))
        self.deed = deed
        self.lives = lives
        self.record = Record(lives)
        self.measuring = called_measuring(self.record, measuring)
        self._now = 0
        self._deadline = None
        self._log = ()
        # The record that stood when an entry was added to the log, for each entry.
        self._kept = ()
        self._note()

    @property
    def now(self):
        """The greatest year of a row that was ever heard, or of a wait."""
        return self._now

    @property
    def log(self):
        """The entries (now, name, state, takers)."""
        return self._log

    @property
    def deadline(self):
        """The deadline of the record, None while a measuring life is alive."""
        return self._deadline

    def __len__(self):
        return len(self._log)

    def __iter__(self):
        return iter(self._log)

    def amend(self, *, forgotten=(), heard=()):
        """Remove some rows from the record and add others, all at once."""
        rows = rows_without(self.record.rows, forgotten)
        for row in heard:
            require_hearable(rows, row)
            rows.append(tuple(row))
        rows = sorted(rows, key=place)
        wrong = record_fault(self.lives, rows)
        if wrong is not None:
            raise NotTrue(wrong[1], rows[wrong[0]])
        self.record = Record(self.lives, rows)
        self._deadline = deadline_of(self.record, self.measuring)
        self._now = max([self._now, *[row[1] for row in heard]])
        self._note()

    def hear(self, *rows):
        """Add rows to the record."""
        self.amend(heard=rows)

    def forget(self, *rows):
        """Remove rows from the record."""
        self.amend(forgotten=rows)

    def put_right(self, old, new):
        """Put a row in the place of another one."""
        self.amend(forgotten=(old,), heard=(new,))

    def wait(self, year):
        """Tell that nothing else has happened up to the year."""
        if not is_whole(year, self._now, MOST_CALL_YEAR):
            raise BadYear(year)
        self._now = year
        self._note()

    def told(self, name, *, delay=0):
        """Return the state of the gift so many years ago, and its takers if it is settled."""
        self.deed.chain(name)
        if not is_whole(delay, 0, MOST_CALL_YEAR):
            raise BadYear(delay)
        return self._told_on(self.record, name, max(0, self._now - delay))

    def _told_on(self, record, name, year):
        waiting = Waiting(self.deed, name, record, year, self.measuring)
        state = waiting.state()
        return (state, self.deed.takers(name, waiting.past) if state == SETTLED else ())

    def state(self, name):
        """Return the state of the gift now."""
        return self.told(name)[0]

    def takers(self, name):
        """Return the takers of the gift if it is settled now."""
        return self.told(name)[1]

    def _note(self):
        """Add an entry to the log for each gift whose state or takers are other ones than its latest entry tells."""
        for name in self.deed.names:
            latest = [at for at, entry in enumerate(self._log) if entry[1] == name][-1:]
            if not any([self._log[at][2] in Watch.FINAL and self._stands(at) for at in latest]):
                told = self.told(name)
                if [self._log[at][2:] for at in latest] != [told]:
                    self._log = (*self._log, (self._now, name, *told))
                    self._kept = (*self._kept, self.record)

    def _stands(self, at):
        """Return whether the record agrees up to the year of an entry with the one that stood then."""
        year = self._log[at][0]
        return rows_until(self.record, year) == rows_until(self._kept[at], year)

    def withdrawn(self):
        """Return the indices of the entries that do not stand."""
        return tuple([at for at in range(len(self._log)) if not self._stands(at)])

    def grounds(self, name):
        """Return the rows of which each one by itself can be forgotten so that another thing is told of the gift."""
        told = self.told(name)
        found = []
        for at, row in enumerate(self.record.rows):
            rows = [*self.record.rows[:at], *self.record.rows[at + 1:]]
            if record_fault(self.lives, rows) is None:
                if self._told_on(Record(self.lives, rows), name, self._now) != told:
                    found.append(row)
        return tuple(found)

    def trial(self):
        """Return an object for a with statement, at whose end the watch is again as it was at its start."""
        return Trial(self)

    def tried(self, call):
        """Return what a call of the watch returns, and take back what it has done to the watch."""
        with self.trial() as same:
            return call(same)


def rows_until(record, year):
    """Return the rows of a record up to a year."""
    return [row for row in record.rows if row[1] <= year]


def rows_without(rows, forgotten):
    """Return the rows without the forgotten ones; raise NotTrue for the first of these that is none of them."""
    left = list(rows)
    for row in forgotten:
        if not is_row(row):
            raise NotTrue("row", row)
        if tuple(row) not in left:
            raise NotTrue("absent", row)
        left.remove(tuple(row))
    return left


def require_hearable(rows, row):
    """Raise NotTrue unless this is a row that is not among the rows and whose year is not too great."""
    if not is_row(row):
        raise NotTrue("row", row)
    if row[1] > MOST_CALL_YEAR:
        raise NotTrue("year", row)
    if tuple(row) in rows:
        raise NotTrue("known", row)
