"""Records with as few rows as there can be, from the record without rows on [9.2] [9.7] [9.11]."""

from lastlife.futures import Scene
from lastlife.search import Search
from lastlife.world import END


class FewRows(Search):
    """Looks for times under which at most so many of the events have a row."""

    def __init__(self, events, most):
        super().__init__(None, 0, 1)
        self.events = events
        self.allowed = most

    def is_worth_it(self, bounds):
        """Return whether few enough events have a row, and once there are as many as can be, leave out the others."""
        if not super().is_worth_it(bounds):
            return False
        sure = [at for at in self.events if bounds.most(at, END) <= 0]
        if len(sure) < self.allowed:
            return True
        grounds = 0
        # One more than there can be are enough to show that there are too many.
        for at in sure[:self.allowed + 1]:
            grounds = grounds | bounds.grounds[at][END]
        self.grounds = grounds
        if len(sure) > self.allowed:
            return False
        for at in self.events:
            if at not in sure and bounds.most(END, at) >= 0:
                if not self.is_added(bounds, (END, at, -1), grounds):
                    return False
        return True


class Play:
    """A sentence about some gifts in a scene that begins without rows."""

    def __init__(self, lives_record, cast):
        self.scene = Scene(lives_record, 0, cast)
        self.sentence = False

    def is_met(self):
        """Return whether the sentence holds in some record."""
        return self.scene.found(Search(None, 0, 1), self.sentence) > 0

    def is_met_with(self, most):
        """Return whether the sentence holds in some record with at most so many rows."""
        # Only behind the rules all events are there.
        self.scene.all_rules()
        events = list(self.scene.world.instants.values())
        return self.scene.found(FewRows(events, most), self.sentence) > 0


def are_met(plays, most=None):
    """Return whether the sentence of one of the plays holds in some record, of at most so many rows."""
    for play in plays:
        if play.is_met() if most is None else play.is_met_with(most):
            return True
    return False


def fewest_rows(plays):
    """Return a record with as few rows as there can be in which the sentence of one of the plays holds, or None."""
    left = [play for play in plays if play.is_met()]
    if len(left) == 0:
        return None
    most = 0
    while True:
        for play in left:
            if play.is_met_with(most):
                return play.scene.shown()
        most += 1
