"""Dates along a record that grows [2.10] [2.11]."""

from lastlife.record import Record


def has_come(date, record, year):
    """Return whether the rows up to the year tell that the date has come by then."""
    came = date.year(record.until(year))
    return came is not None and came <= year


class Follower:
    """A date, followed row by row."""

    def __init__(self, date, lives):
        self.date = date
        self.record = Record(lives)
        self._found = [(0, date.year(self.record))]

    @property
    def value(self):
        """The date's year on the rows so far, None if it never comes."""
        return self._found[-1][1]

    @property
    def changes(self):
        """The pairs of a number of rows and the value that came with them."""
        return tuple(self._found)

    def take(self, row):
        """Add a row behind the rows so far."""
        longer = self.record.after(row)
        year = self.date.year(longer)
        if year != self.value:
            self._found.append((len(longer.rows), year))
        self.record = longer
