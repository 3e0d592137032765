"""Beginnings of records, and how far two records agree [1.13]."""

from lastlife.errors import OtherLives
from lastlife.record import Record


def agree(one, other, year):
    """Return whether both records have equal lives and the same rows up to the year."""
    return one.lives == other.lives and one.until(year).rows == other.until(year).rows


def beginnings(record):
    """Yield the records of the first 0, 1, 2, .. rows, at last of all rows."""
    for many in range(len(record.rows) + 1):
        yield Record(record.lives, record.rows[:many])


def last_common_year(one, other):
    """Return the greatest year up to which the records agree, None if they are equal."""
    if one.lives != other.lives:
        raise OtherLives()
    if one.rows == other.rows:
        return None
    at = common_rows(one.rows, other.rows)
    # Where one list has ended, the slice is empty and the other list's row tells the year.
    return min([row[1] for row in one.rows[at:at + 1] + other.rows[at:at + 1]]) - 1


def common_rows(rows, others):
    """Return how many rows two lists have in common from their start on."""
    many = 0
    for row, other in zip(rows, others):
        if row != other:
            return many
        many += 1
    return many
