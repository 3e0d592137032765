"""Shortest paths through links that some times keep."""


class Ways:
    """The paths with the least sums from one instant to all that can be reached from it."""

    def __init__(self, count, links, source):
        self.links = links
        self.source = source
        self.sums = [None] * count
        self.steps = [None] * count
        self.sums[source] = 0
        # No path with a least sum has as many links as there are instants.
        for _ in range(count):
            self.shorten()

    def shorten(self):
        """Shorten each path that a link makes shorter."""
        sums = self.sums
        for index, (one, other, most) in enumerate(self.links):
            if sums[other] is not None and (sums[one] is None or sums[other] + most < sums[one]):
                sums[one] = sums[other] + most
                self.steps[one] = index

    def path_to(self, end):
        """Return the path to an instant that can be reached."""
        path = []
        while end != self.source:
            path.append(self.steps[end])
            end = self.links[self.steps[end]][1]
        return tuple(path[::-1])

    def out_of_reach(self):
        """Return the instants that cannot be reached, ascending."""
        return tuple([instant for instant, found in enumerate(self.sums) if found is None])

    def times_beside(self, kept):
        """Return times that keep the links and have the greatest differences from the start; kept keep the links."""
        gaps = [self.sums[one] - kept[other] - most for one, other, most in self.links
                if self.sums[one] is not None and self.sums[other] is None]
        raised = max(gaps, default=0)
        return tuple([kept[instant] + raised if found is None else found for instant, found in enumerate(self.sums)])
