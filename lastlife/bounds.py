"""Bounds of the differences of instants: a closed table, in which each bound is the least that follows.

Beside each bound stand its grounds: a whole number whose bits tell the decisions from which it follows.
"""

# Greater than each sum of bounds that a table can hold.
NO_BOUND = 1000000000000000000000000


class Bounds:
    """For each two instants how far the first one can be above the second one, and the grounds of that."""

    def __init__(self, table, grounds, ones=0, others=0):
        self.table = table
        self.grounds = grounds
        self.ones = ones
        self.others = others

    def copied(self):
        """Return bounds that can be tightened by themselves."""
        return Bounds([row[:] for row in self.table], [row[:] for row in self.grounds], self.ones, self.others)

    def most(self, one, other):
        """Return the greatest difference of one and other, NO_BOUND if there is none."""
        return self.table[one][other]

    def clash(self, one, other, most):
        """Return the grounds for which one cannot be at most so much above other, None if it can be."""
        return self.grounds[other][one] if self.table[other][one] + most < 0 else None

    def tighten(self, one, other, most, grounds):
        """Add that one is at most so much above other, which does not clash."""
        near = self.table[one]
        if near[other] <= most:
            return
        ends = [(at, most + far, grounds | self.grounds[other][at]) for at, far in enumerate(self.table[other])
                if far < NO_BOUND and most + far < near[at]]
        for at, _, _ in ends:
            self.others = self.others | 1 << at
        # Where the way by this link is no shorter up to the other instant, it is not shorter behind it.
        starts = [start for start, row in enumerate(self.table)
                  if row[one] < NO_BOUND and row[one] + most < row[other]]
        for start in starts:
            self.ones = self.ones | 1 << start
            row = self.table[start]
            marks = self.grounds[start]
            way = row[one]
            mark = marks[one]
            for at, far, why in ends:
                if way + far < row[at]:
                    row[at] = way + far
                    marks[at] = mark | why

    def has_changed(self):
        """Return whether a bound has changed since the changes were taken."""
        return self.ones > 0

    def taken_changes(self):
        """Return the instants between which a bound has changed since the last call, as bits: first and second ones."""
        changes = (self.ones, self.others)
        self.ones = 0
        self.others = 0
        return changes


def wide_bounds(count):
    """Return the bounds of so many instants between which nothing is bounded."""
    table = [[0 if at == other else NO_BOUND for other in range(count)] for at in range(count)]
    return Bounds(table, [[0] * count for _ in range(count)])
