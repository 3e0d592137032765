"""Bounds of the differences of instants: a closed table, in which each bound is the least that follows.

Beside each bound stand its grounds: a whole number whose bits tell the decisions from which it follows.
"""

# Greater than each sum of bounds that a table can hold.
NO_BOUND = 1000000000000000000000000


class Bounds:
    """For each two instants how far the first one can be above the second one, and the grounds of that."""

    def __init__(self, table, grounds):
        self.table = table
        self.grounds = grounds

    def copied(self):
        """Return bounds that can be tightened by themselves."""
        return Bounds([row[:] for row in self.table], [row[:] for row in self.grounds])

    def most(self, one, other):
        """Return the greatest difference of one and other, NO_BOUND if there is none."""
        return self.table[one][other]

    def clash(self, one, other, most):
        """Return the grounds for which one cannot be at most so much above other, None if it can be."""
        return self.grounds[other][one] if self.table[other][one] + most < 0 else None

    def tighten(self, one, other, most, grounds):
        """Add that one is at most so much above other, which does not clash; return whether this is new."""
        near = self.table[one]
        if near[other] <= most:
            return False
        ends = [(at, most + far, grounds | self.grounds[other][at]) for at, far in enumerate(self.table[other])
                if far < NO_BOUND and most + far < near[at]]
        for start in range(len(self.table)):
            row = self.table[start]
            # Where the way by this link is no shorter up to the other instant, it is not shorter behind it.
            if row[one] < NO_BOUND and row[one] + most < row[other]:
                way = row[one]
                marks = self.grounds[start]
                mark = marks[one]
                for at, far, why in ends:
                    if way + far < row[at]:
                        row[at] = way + far
                        marks[at] = mark | why
        return True


def wide_bounds(count):
    """Return the bounds of so many instants between which nothing is bounded."""
    table = [[0 if at == other else NO_BOUND for other in range(count)] for at in range(count)]
    return Bounds(table, [[0] * count for _ in range(count)])
