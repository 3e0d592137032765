"""What can still come: the records that go on from a beginning, asked through their worlds."""

from lastlife.bounds import NO_BOUND, wide_bounds
from lastlife.cast import Cast
from lastlife.claims import Question
from lastlife.search import Search
from lastlife.sentences import some_of
from lastlife.witness import Witness, tipping
from lastlife.world import AT_NEVER, DEAD, END, World, link

# The kinds of rows in the order in which they are asked: those for which a great lag is soon found come first.
SOONEST = ("happened", "wed", "born", "died")

# Greater than each lag of a gift that is not endless, and less than no bound.
ABOVE_ALL = 100000000000000000000


def bounded(world):
    """Return the bounds that the links of a world leave; there always are some."""
    bounds = wide_bounds(world.count)
    for one, other, most in world.links:
        bounds.tighten(one, other, most, 0)
    return bounds


def looked_for(search, world, sentence):
    """Look in the world for times under which the sentence holds; return whether the search has found better ones."""
    if sentence is False:
        return False
    return search.find(bounded(world), sentence, world.rules)


def some_record(past, since, chain, ask):
    """Return a record that goes on from the past behind the year and for which the sentence of ask holds, or None."""
    cast = Cast(chain, past)
    world = World(past, since, cast.sizes(None))
    sentence = ask(Question(world, chain, False))
    world.rules.extend(few_newcomers(world, cast, None))
    search = Search(None, 0, 1)
    if not looked_for(search, world, sentence):
        return None
    return Witness(world, search.bounds).told_record()


def few_newcomers(world, cast, subject):
    """Return the sentences that no more newcomers are there than are needed together."""
    found = [some_of([link(AT_NEVER, world.birth(person)) for person in crowd]) for crowd in cast.crowds(subject)]
    for parent, child in cast.parent_pairs(subject):
        found.append(some_of([link(AT_NEVER, world.birth(parent)), world.is_there(child)]))
    return found


class Lags:
    """The greatest lag of the records that go on from a past and whose last row tips the gift of a chain."""

    def __init__(self, past, since, chain, measuring):
        self.past = past
        self.since = since
        self.gifts = chain
        self.measuring = measuring
        self.cast = Cast(chain, past)
        self.search = None
        self.world = None

    def look(self, floor, enough=NO_BOUND):
        """Look for a lag above the floor; return the greatest one, NO_BOUND if there is none, or the floor."""
        self.search = Search((END, DEAD), floor, enough)
        self.world = None
        for row in self.rows_in_question():
            self.look_at(row)
            if self.search.is_done():
                break
        return self.search.best

    def rows_in_question(self):
        """Return the rows in question: all on which the gift hangs."""
        pools = {place: self.cast.sizes(place)[place] for place in self.cast.places}
        world = World(self.past, self.since, pools)
        Question(world, self.gifts, False)
        return [row for word in SOONEST for row in list(world.instants) if row[0] == word and self.is_in_question(row)]

    def is_in_question(self, row):
        """Return whether the row can be the last one and the gift can hang on it."""
        word, name = row
        if isinstance(name, str):
            return word == "happened" or name not in self.measuring
        # Of several newcomers in one place, the first one stands for the others.
        return name[0] == "mate" or (name[2] == 0 and not self.cast.is_idle(name[:2]))

    def look_at(self, row):
        """Look for a greater lag of a record with such a last row."""
        name = row[1]
        place = None if isinstance(name, str) or name[0] == "mate" else name[:2]
        world = World(self.past, self.since, self.cast.sizes(place), row, self.measuring)
        longer = Question(world, self.gifts, False)
        shorter = Question(world, self.gifts, True)
        world.require_row()
        sentence = some_of([longer.loses(shorter), shorter.loses(longer)])
        world.rules.extend(few_newcomers(world, self.cast, place))
        if looked_for(self.search, world, sentence):
            self.world = world

    def shown(self, least, takers):
        """Return a record with such a lag at least, once a lag has been found that is as great."""
        bounds = self.search.bounds.copied()
        bounds.tighten(DEAD, END, -least, 0)
        witness = Witness(self.world, bounds)
        return tipping(witness.told_record((witness.row_in_question(),)), witness.told_record(), takers)
