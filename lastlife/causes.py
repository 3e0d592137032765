"""How late a gift can be open by a row of one kind [7.5] [7.6]."""

from lastlife.calls import called_chain, called_measuring, called_year
from lastlife.cast import chain_cast
from lastlife.delays import latest_of
from lastlife.errors import BadCause
from lastlife.futures import Scene
from lastlife.members import require_class
from lastlife.reaches import Reaches
from lastlife.record import Record, record_fault
from lastlife.sentences import all_of, some_of
from lastlife.world import link

CAUSES = ("born", "wed", "happened", "died")


class RowReaches(Reaches):
    """The lags of the records of which a row of the last year does something to a gift."""

    def __init__(self, deed, name, record, year, measuring):
        super().__init__(deed, name, record, year, measuring, True)
        self.cause = None

    def shown(self, least):
        """Return a record with such a lag at least, once one has been found."""
        return self.lags.pair_of_records(least)[0]


class CauseReaches(RowReaches):
    """The lags of the records which have a cause row with a cause that tips the gift."""

    def of_cause(self, cause):
        """Take this cause; raise BadCause if it is none."""
        if not isinstance(cause, str) or cause not in CAUSES:
            raise BadCause(cause)
        self.cause = cause

    def asked(self, case):
        """Return the sentence that the row in question tips the gift."""
        return case.tips() if case.row[0] == self.cause else False

    def tip_fault(self, record):
        """Return the word for a record that no cause row with the cause tips, or None."""
        shorter = without_cause_rows(record, self.cause)
        if len(shorter) == 0:
            return "cause"
        takers = self.told(record)
        return "takers" if all([self.told(other) == takers for other in shorter]) else None


class JoiningReaches(RowReaches):
    """The lags of the records in which a person takes whose birth is a row of the last year."""

    def asked(self, case):
        """Return the sentence that the row in question is the birth of a person who takes."""
        return case.with_row.goes_to([case.row[1]]) if case.row[0] == "born" else False


class LeavingReaches(RowReaches):
    """The lags of the records in which a person does not take who would without its death, a row of the last year."""

    def asked(self, case):
        """Return the sentence that the row in question is the death of a person who takes without it alone."""
        if case.row[0] != "died":
            return False
        person = case.row[1]
        return all_of([case.without.goes_to([person]), case.with_row.passes_over(person)])


def without_cause_rows(record, cause):
    """Return for each cause row with this cause the record without it."""
    found = []
    for at, row in enumerate(record.rows):
        if row[0] == cause and row[1] == record.end:
            rows = [*record.rows[:at], *record.rows[at + 1:]]
            if record_fault(record.lives, rows) is None:
                found.append(Record(record.lives, rows))
    return found


def cause_reaches(deed, name, record, cause, year, measuring):
    """Return the lags of the records with a cause row with this cause, with the errors of a call."""
    reaches = CauseReaches(deed, name, record, year, measuring)
    reaches.of_cause(cause)
    return reaches


def cause_number(deed, name, record, cause, *, year=None, measuring=None):
    """Return the greatest lag of the records which a row with this cause tips, None if it is endless."""
    return cause_reaches(deed, name, record, cause, year, measuring).greatest()


def cause_reach(deed, name, record, cause, *, year=None, measuring=None):
    """Return the cause number and a record that has it, as a Reach."""
    return cause_reaches(deed, name, record, cause, year, measuring).as_reach()


def cause_fault(deed, name, record, cause, found, *, year=None, measuring=None):
    """Return the word for a Reach, None if cause_reach could return it."""
    return cause_reaches(deed, name, record, cause, year, measuring).fault(found)


def cause_numbers(deed, name, record, *, year=None, measuring=None):
    """Return the pairs of a cause and its cause number."""
    reaches = CauseReaches(deed, name, record, year, measuring)
    found = []
    for cause in CAUSES:
        reaches.of_cause(cause)
        found.append((cause, reaches.greatest()))
    return tuple(found)


def joining(deed, name, record, *, year=None, measuring=None):
    """Return how late the birth of a taker can be a row of the last year, as a Reach."""
    return JoiningReaches(deed, name, record, year, measuring).as_reach()


def leaving(deed, name, record, *, year=None, measuring=None):
    """Return how late the death of one who would take can be a row of the last year, as a Reach."""
    return LeavingReaches(deed, name, record, year, measuring).as_reach()


def latest_birth(deed, name, record, *, year=None, measuring=None):
    """Return how late the last born newcomer who takes can be born, as a Latest."""
    chain = called_chain(deed, name, record)
    since = called_year(record, year)
    named = called_measuring(record, measuring)
    require_class(deed, name)
    past = record.until(since)
    scene = Scene(past, since, chain_cast(chain, past), named)
    question = scene.question(chain)
    time = scene.world.free_time()
    births = [all_of([question.last.takes(person), link(time, scene.world.birth(person))])
              for person in question.newcomers()]
    return latest_of(scene, all_of([some_of(births), question.is_for_grabs()]), time)
