"""The sentences of a world that tell who takes the gift at the end of a chain."""

from lastlife.conditions import By
from lastlife.sentences import all_of, denied, some_of
from lastlife.takers import FirstReaching, Living, Mate, Named, Reaching, Told
from lastlife.values import at_most, comes, later_by, reaches_sentence, time_of, value_of
from lastlife.world import link


class Claims:
    """What a gift asks for in a world, in the record with the row in question or in the shorter one."""

    def __init__(self, world, gift, shorter):
        self.world = world
        self.gift = gift
        self.is_shorter = shorter
        self.time = time_of(value_of(gift.date, world, shorter), world)
        self.needs = [comes(self.time)]
        for condition in gift.conditions:
            self.needs.append(condition_sentence(world, condition, shorter))
        self.pairs = taker_pairs(world, gift.taker, self.time, shorter)

    def takes(self, person):
        """Return the sentence that a person is among those to whom the taker gives the gift."""
        return some_of([holds for other, holds in self.pairs if other == person])

    def finds(self):
        """Return the sentence that the needs are met and that somebody takes."""
        return all_of([*self.needs, self.finds_somebody()])

    def finds_somebody(self):
        """Return the sentence that the taker gives the gift to somebody."""
        if isinstance(self.gift.taker, FirstReaching):
            return some_of(reached_sentences(self.world, self.gift.taker, self.time, self.is_shorter))
        return some_of([holds for _, holds in self.pairs])

    def finds_nobody(self):
        """Return the sentence that a need is not met or nobody takes."""
        return denied(self.finds())


def condition_sentence(world, condition, shorter):
    """Return the sentence that a condition holds."""
    one = value_of(condition.one, world, shorter)
    other = value_of(condition.other, world, shorter)
    kept = all_of([comes(one), at_most(one, other)])
    return kept if isinstance(condition, By) else denied(kept)


def taker_pairs(world, taker, time, shorter):
    """Return pairs of a person and the sentence that the taker gives it the gift at a time."""
    if isinstance(taker, Named):
        return [(taker.life, True)]
    if isinstance(taker, Mate):
        return world.mates(taker.life, shorter)
    if isinstance(taker, Told):
        return [(member, True) for member in taker.of(world.past, 0)]
    members = world.members(taker.kin, shorter)
    if isinstance(taker, FirstReaching):
        reached = reached_sentences(world, taker, time, shorter)
        return [(member, all_of([holds, *first_sentences(world, taker, members, member, shorter)]))
                for member, holds in zip(members, reached)]
    return [(member, member_sentence(world, taker, member, time, shorter)) for member in members]


def member_sentence(world, taker, member, time, shorter):
    """Return the sentence that a Whole, Living or Reaching gives a member the gift at a time."""
    born = link(world.birth(member), time)
    if isinstance(taker, Living):
        return all_of([born, link(time, world.death(member, shorter))])
    if isinstance(taker, Reaching):
        return all_of([born, reaches_sentence(world, member, taker.age, shorter)])
    return born


def reached_sentences(world, taker, time, shorter):
    """Return for each member the sentence that it has reached the taker's age by the time."""
    return [all_of([link(later_by(world.birth(member), taker.age), time),
                    reaches_sentence(world, member, taker.age, shorter)])
            for member in world.members(taker.kin, shorter)]


def first_sentences(world, taker, members, member, shorter):
    """Return the sentences that no other member who comes first reaches the age."""
    found = []
    for other in members:
        if other != member:
            behind = denied(comes_first(world, other, member))
            found.append(some_of([behind, denied(reaches_sentence(world, other, taker.age, shorter))]))
    return found


def comes_first(world, one, other):
    """Return the sentence that one person is born first of two, or is the first one of a record in one year."""
    if isinstance(one, str) and isinstance(other, str):
        places = world.past.persons
        ones, others = world.past.birth(one), world.past.birth(other)
        return ones < others or (ones == others and places.index(one) < places.index(other))
    if isinstance(one, str) or isinstance(other, str):
        return isinstance(one, str)
    if world.rank(one) == world.rank(other):
        return one[2] < other[2]
    if world.rank(one) > world.rank(other):
        return denied(comes_first(world, other, one))
    # The names of newcomers are free, so of two who are born in one year either can be the first one.
    births = (world.birth(one), world.birth(other))
    turns = link(world.turn(one), world.turn(other))
    return some_of([link(births[0], births[1], -1), all_of([link(births[0], births[1]), turns])])


class Question:
    """What is asked of the gift at the end of a chain in a world.

    Two questions are asked of the record with the row in question and of the shorter one, or of the same record
    for two gifts.
    """

    def __init__(self, world, chain, shorter):
        self.ahead = [Claims(world, gift, shorter) for gift in chain[:-1]]
        self.last = Claims(world, chain[-1], shorter)
        self.free = [claims.finds_nobody() for claims in self.ahead]

    def is_for_grabs(self):
        """Return the sentence that the gift goes to those whom its taker tells."""
        return all_of([*self.last.needs, *self.free])

    def fails(self):
        """Return the sentence that the gift goes to nobody, whomever its taker tells."""
        return some_of([*[denied(need) for need in self.last.needs], *[claims.finds() for claims in self.ahead]])

    def fails_unlike(self, other):
        """Return the sentence that it fails by something that the other question does not ask for in the same way."""
        found = [denied(need) for need in self.last.needs if need not in other.last.needs]
        for claims, free in zip(self.ahead, self.free):
            if free not in other.free:
                found.append(claims.finds())
        return some_of(found)

    def newcomers(self):
        """Return the newcomers to whom the gift can go."""
        return [person for person, _ in self.last.pairs if not isinstance(person, str)]

    def goes_to(self, persons):
        """Return the sentence that one of the persons takes."""
        return all_of([some_of([self.last.takes(person) for person in persons]), self.is_for_grabs()])

    def passes_over(self, person):
        """Return the sentence that the person does not take."""
        return some_of([denied(self.last.takes(person)), self.fails()])

    def differs(self, takers):
        """Return the sentence that the takers are other ones than these."""
        others = [person for person, _ in self.last.pairs if person not in takers]
        return some_of([self.goes_to(others), *[self.passes_over(person) for person in takers]])

    def loses(self, other, persons=None):
        """Return the sentence that one of the persons takes here and not in the other question; None stands for all."""
        pairs = [pair for pair in self.last.pairs if persons is None or pair[0] in persons]
        somebody = self.last.finds_somebody() if persons is None else some_of([holds for _, holds in pairs])
        lost = [all_of([holds, denied(other.last.takes(person))]) for person, holds in pairs]
        unlike = some_of([*lost, all_of([other.fails_unlike(self), somebody])])
        return all_of([unlike, self.is_for_grabs()])

    def has_takers(self):
        """Return the sentence that somebody takes."""
        return all_of([self.last.finds_somebody(), self.is_for_grabs()])

    def has_none(self):
        """Return the sentence that nobody takes."""
        return some_of([denied(self.last.finds_somebody()), self.fails()])
