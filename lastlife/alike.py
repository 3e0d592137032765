"""Two gifts in all records of some lives: whether they deal alike, and what parts them [9.1] to [9.5]."""

from lastlife.cast import Cast
from lastlife.deed import require_deed_lives
from lastlife.fewest import Play, are_met, fewest_rows
from lastlife.gifts import deals_of
from lastlife.lives import require_lives
from lastlife.record import Record
from lastlife.takers import FirstReaching


def parting_play(chain, other, lives, persons):
    """Return the play in which somebody takes the gift of the first chain and does not take that of the other one."""
    start = Record(lives)
    # A person who comes first keeps another one from a gift to the first one; a gift ahead keeps everybody from it.
    keepers = other if isinstance(other[-1].taker, FirstReaching) else other[:-1]
    play = Play(start, Cast(start, (*chain, *other), chain[-1:], keepers))
    play.sentence = play.scene.question(chain).loses(play.scene.question(other), persons)
    return play


def parting_plays(chain, other, lives, persons=None):
    """Return the plays in which the gifts of both chains part; with persons, in which they part for one of these."""
    if deals_of(chain) == deals_of(other):
        return []
    return [parting_play(chain, other, lives, persons), parting_play(other, chain, lives, persons)]


def called_plays(one, one_name, other, other_name, lives, person):
    """Return the plays in which two gifts part, with the errors of a call."""
    chain = one.chain(one_name)
    other_chain = other.chain(other_name)
    require_lives(lives, one.chain_lives(one_name))
    require_lives(lives, other.chain_lives(other_name))
    if person is not None:
        require_lives(lives, (person,))
    return parting_plays(chain, other_chain, lives, None if person is None else [person])


def parting(one, one_name, other, other_name, lives, *, person=None):
    """Return a record with as few rows as there can be that parts the gifts, None if they deal alike."""
    return fewest_rows(called_plays(one, one_name, other, other_name, lives, person))


def alike(one, one_name, other, other_name, lives):
    """Return whether both gifts deal alike."""
    return not are_met(called_plays(one, one_name, other, other_name, lives, None))


def differing(one, other, lives):
    """Return the names of the gifts that one deed has alone, or that do not deal alike in both deeds."""
    require_deed_lives(one, lives)
    require_deed_lives(other, lives)
    found = [name for name in one.names if name not in other.names or not alike(one, name, other, name, lives)]
    return tuple([*found, *[name for name in other.names if name not in one.names]])


def parting_fault(one, one_name, other, other_name, lives, found, *, person=None):
    """Return the word for a result of parting, None if it is right."""
    plays = called_plays(one, one_name, other, other_name, lives, person)
    if found is None:
        return "parted" if are_met(plays) else None
    if not isinstance(found, Record) or found.lives != lives:
        return "record"
    takers = one.takers(one_name, found)
    other_takers = other.takers(other_name, found)
    if (takers == other_takers) if person is None else ((person in takers) == (person in other_takers)):
        return "alike"
    return "fewest" if len(found) > 0 and are_met(plays, len(found) - 1) else None
