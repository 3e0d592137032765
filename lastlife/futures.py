"""What can still come: the records that go on from a beginning, asked through their worlds."""

from lastlife.bounds import NO_BOUND, wide_bounds
from lastlife.cast import pool_sizes
from lastlife.claims import Question
from lastlife.search import Search
from lastlife.sentences import some_of
from lastlife.witness import Witness, tipping
from lastlife.world import DEAD, END, World

# Greater than each lag of a gift that is not endless, and less than no bound.
ABOVE_ALL = 100000000000000000000


def bounded(world):
    """Return the bounds that the links of a world leave, None if these cannot hold."""
    bounds = wide_bounds(world.count)
    for one, other, most in world.links:
        if bounds.clash(one, other, most) is not None:
            return None
        bounds.tighten(one, other, most, 0)
    return bounds


def looked_for(search, world, sentence):
    """Look in the world for times under which the sentence holds; return whether the search has found better ones."""
    if sentence is False:
        return False
    bounds = bounded(world)
    if bounds is None:
        return False
    before = search.best
    search.explore(bounds, [(sentence, 0, True), *[(rule, 0, False) for rule in world.rules]])
    return search.best > before


def some_record(past, since, chain, ask):
    """Return a record that goes on from the past behind the year and for which the sentence of ask holds, or None."""
    world = World(past, since, pool_sizes(chain, past))
    sentence = ask(Question(world, chain, False))
    search = Search(None, 0, 1)
    if not looked_for(search, world, sentence):
        return None
    return Witness(world, search.bounds).told_record()


class Lags:
    """The greatest lag of the records that go on from a past and whose last row tips the gift of a chain."""

    def __init__(self, past, since, chain, measuring):
        self.past = past
        self.since = since
        self.gifts = chain
        self.measuring = measuring
        self.search = None
        self.world = None

    def look(self, floor, enough=NO_BOUND):
        """Look for a lag above the floor; return the greatest one, NO_BOUND if there is none, or the floor."""
        self.search = Search((END, DEAD), floor, enough)
        self.world = None
        for row in self.rows_in_question():
            self.look_at(row)
            if self.search.is_done():
                break
        return self.search.best

    def rows_in_question(self):
        """Return the rows in question: all on which the gift hangs."""
        pools = {place: self.sizes(place)[place] for place in self.sizes(None)}
        world = World(self.past, self.since, pools)
        Question(world, self.gifts, False)
        found = []
        for word, name in world.instants:
            # Of several newcomers in one place, the first one stands for the others.
            if not isinstance(name, str) and len(name) == 3 and name[2] > 0:
                continue
            if word == "happened" or name not in self.measuring:
                found.append((word, name))
        return found

    def sizes(self, subject):
        """Return the sizes of the pools if the subject of the row in question is in a place."""
        return pool_sizes(self.gifts, self.past, subject)

    def look_at(self, row):
        """Look for a greater lag of a record with such a last row."""
        name = row[1]
        place = None if isinstance(name, str) or name[0] == "mate" else name[:2]
        world = World(self.past, self.since, self.sizes(place), row, self.measuring)
        longer = Question(world, self.gifts, False)
        shorter = Question(world, self.gifts, True)
        world.require_row()
        sentence = some_of([longer.loses(shorter), shorter.loses(longer)])
        if looked_for(self.search, world, sentence):
            self.world = world

    def shown(self, least, takers):
        """Return a record with such a lag at least, once a lag has been found that is as great."""
        bounds = self.search.bounds.copied()
        bounds.tighten(DEAD, END, -least, 0)
        witness = Witness(self.world, bounds)
        return tipping(witness.told_record((witness.row_in_question(),)), witness.told_record(), takers)
