"""How late a gift can be open, and how late a date can come [6.6] [6.11]."""

from lastlife.record import Record


class Reach:
    """The number of a gift, None if it is endless, and a record that shows that it is no less."""

    def __init__(self, number, record=None):
        self.number = number
        self.record = record
        # A property builds nothing, so the shorter record is made here.
        told = isinstance(record, Record) and len(record) > 0
        self._families = (record, record.shorter()) if told else ()

    @property
    def is_endless(self):
        """Whether the gift is endless."""
        return self.number is None

    @property
    def last_row(self):
        """The last row of the record, None if there is none."""
        return self.record.rows[-1] if len(self._families) > 0 else None

    @property
    def families(self):
        """The record, and the record without its last row."""
        return self._families

    def __eq__(self, other):
        return isinstance(other, Reach) and self.number == other.number and self.record == other.record


class Latest:
    """How late a date can come: the kind of the answer, the greatest delay and a record with such a delay."""

    def __init__(self, kind, years=None, record=None):
        self.kind = kind
        self.years = years
        self.record = record

    def __eq__(self, other):
        return (isinstance(other, Latest)
                and self.kind == other.kind
                and self.years == other.years
                and self.record == other.record)
