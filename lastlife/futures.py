"""What can still come: the records that go on from a beginning, asked through their worlds."""

from lastlife.bounds import NO_BOUND, wide_bounds
from lastlife.cast import chain_cast
from lastlife.claims import Question
from lastlife.search import Search
from lastlife.sentences import some_of
from lastlife.witness import Witness, tipping
from lastlife.world import AT_NEVER, DEAD, END, START, ZERO, World, link

# The kinds of rows in the order in which they are asked: those for which a great lag is soon found come first.
SOONEST = ("happened", "wed", "born", "died")

# Greater than each lag of a gift that is not endless, and less than no bound.
ABOVE_ALL = 100000000000000000000


def bounded(world):
    """Return the bounds that the links of a world leave; there always are some."""
    bounds = wide_bounds(world.count)
    for one, other, most in world.links:
        bounds.tighten(one, other, most, 0)
    return bounds


class Scene:
    """A world without a row in question, in which some gifts are asked for."""

    def __init__(self, past, since, cast, measuring=()):
        self.cast = cast
        self.world = World(past, since, cast.sizes(None), None, measuring)
        self.search = None

    def question(self, chain):
        """Return what can be asked of the gift at the end of a chain."""
        return Question(self.world, chain, False)

    def all_rules(self):
        """Return all sentences that hold in the world, once all questions have been asked."""
        # These can bring newcomers whom no question names, and so more rules of the world.
        few = few_newcomers(self.world, self.cast, None)
        return [*self.world.rules, *few]

    def found(self, search, sentence):
        """Return what a search finds, for the times under which the sentence holds."""
        self.search = search
        if sentence is not False:
            rules = self.all_rules()
            search.find(bounded(self.world), sentence, rules)
        return search.best

    def shown(self, pair=None, least=0):
        """Return a record in which a pair of instants is so far apart at least, once times for it have been found."""
        bounds = self.search.bounds.copied()
        if pair is not None:
            bounds.tighten(pair[1], pair[0], -least, 0)
        return Witness(self.world, bounds).told_record()


def some_record(past, since, chain, ask):
    """Return a record that goes on from the past behind the year and for which the sentence of ask holds, or None."""
    scene = Scene(past, since, chain_cast(chain, past))
    sentence = ask(scene.question(chain))
    return scene.shown() if scene.found(Search(None, 0, 1), sentence) > 0 else None


def last_start(past, since, chain, ask, enough):
    """Return the last year in which the rows behind the past can begin if the sentence of ask holds, since if none."""
    scene = Scene(past, since, chain_cast(chain, past))
    sentence = ask(scene.question(chain))
    return scene.found(Search((START, ZERO), since, enough), sentence)


def few_newcomers(world, cast, subject):
    """Return the sentences that no more newcomers are there than are needed together."""
    found = [some_of([link(AT_NEVER, world.birth(person)) for person in crowd]) for crowd in cast.crowds(subject)]
    for parent, child in cast.parent_pairs(subject):
        found.append(some_of([link(AT_NEVER, world.birth(parent)), world.is_there(child)]))
    return found


class Case:
    """A row in question with its world, and what is asked of the gift with the row and without it."""

    def __init__(self, world, chain, cast):
        self.row = world.row
        self.world = world
        self.with_row = Question(world, chain, False)
        self.without = Question(world, chain, True)
        world.require_row()
        world.rules.extend(few_newcomers(world, cast, place_of(world.row)))
        self.bounds = bounded(world)

    def tips(self, persons=None):
        """Return the sentence that one of the persons takes with the row or without it alone; None stands for all."""
        return some_of([self.with_row.loses(self.without, persons), self.without.loses(self.with_row, persons)])

    def newcomers(self):
        """Return the newcomers to whom the gift can go with the row or without it."""
        return [*self.with_row.newcomers(), *self.without.newcomers()]


def place_of(row):
    """Return the place of the newcomer of a row in question, None if there is none."""
    name = row[1]
    return None if isinstance(name, str) or name[0] == "mate" else name[:2]


class Lags:
    """The lags of the records that go on from a past, by what their row in question does to the gift of a chain.

    The row in question is the last one, or one of the last year that stands beside others.
    """

    def __init__(self, past, since, chain, measuring, is_beside=False):
        self.past = past
        self.since = since
        self.gifts = chain
        self.measuring = measuring
        self.is_beside = is_beside
        self.cast = chain_cast(chain, past)
        self.rows = []
        self.cases = {}
        self.search = None
        self.case = None

    def look(self, ask, floor, enough=NO_BOUND):
        """Look for a lag above the floor; return the greatest one, NO_BOUND if there is none, or the floor.

        For each row in question ask makes of its case the sentence that is asked for.
        """
        self.search = Search((END, DEAD), floor, enough)
        self.go_through(ask, 1)
        return self.search.best

    def look_for_start(self, ask, least, enough):
        """Return the last year in which the rows behind the past can begin if such a lag is at least so great."""
        self.search = Search((START, ZERO), self.since, enough)
        self.go_through(ask, least)
        return self.search.best

    def go_through(self, ask, least):
        """Look in the case of each row in question for a lag that is at least so great."""
        self.case = None
        for row in self.rows_in_question():
            case = self.case_of(row)
            sentence = ask(case)
            bounds = case.bounds.copied()
            if sentence is not False and bounds.clash(DEAD, END, -least) is None:
                bounds.tighten(DEAD, END, -least, 0)
                if self.search.find(bounds, sentence, case.world.rules):
                    self.case = case
            if self.search.is_done():
                break

    def rows_in_question(self):
        """Return the rows in question: all on which the gift hangs."""
        if len(self.rows) == 0:
            pools = {place: self.cast.sizes(place)[place] for place in self.cast.places}
            world = World(self.past, self.since, pools)
            Question(world, self.gifts, False)
            self.rows = [row for word in SOONEST for row in list(world.instants)
                         if row[0] == word and self.is_in_question(row)]
        return self.rows

    def is_in_question(self, row):
        """Return whether the row can be the last one and the gift can hang on it."""
        word, name = row
        if isinstance(name, str):
            return word == "happened" or name not in self.measuring
        # Of several newcomers in one place, the first one stands for the others.
        return name[0] == "mate" or (name[2] == 0 and not self.cast.is_idle(name[:2]))

    def case_of(self, row):
        """Return the case of a row in question, which is made but once."""
        if row not in self.cases:
            sizes = self.cast.sizes(place_of(row))
            world = World(self.past, self.since, sizes, row, self.measuring, self.is_beside)
            self.cases[row] = Case(world, self.gifts, self.cast)
        return self.cases[row]

    def pair_of_records(self, least):
        """Return a record with such a lag at least and it without the row in question, once one has been found."""
        bounds = self.search.bounds.copied()
        bounds.tighten(DEAD, END, -least, 0)
        witness = Witness(self.case.world, bounds)
        return (witness.told_record((witness.row_in_question(),)), witness.told_record())

    def shown(self, least, takers):
        """Return a record with such a lag at least whose last row tips what takers tells, once one has been found."""
        longer, shorter = self.pair_of_records(least)
        return tipping(longer, shorter, takers)
