"""Records in which gifts have takers or none, and what of a deed is idle or sure [9.6] to [9.9]."""

from lastlife.alike import parting_plays
from lastlife.cast import Cast
from lastlife.deed import require_deed_lives
from lastlife.errors import BadCase
from lastlife.fewest import Play, are_met, fewest_rows
from lastlife.gifts import remade
from lastlife.lives import require_lives
from lastlife.record import Record
from lastlife.sentences import all_of

MOST_NAMES = 2


def require_case(deed, lives, takes, fails):
    """Raise the errors of a call for gifts that have takers and gifts that have none."""
    names = [*takes, *fails]
    for name in names:
        deed.chain(name)
    for name in names:
        require_lives(lives, deed.chain_lives(name))
    if len(names) > MOST_NAMES:
        raise BadCase("many")
    if len(names) == MOST_NAMES and names[0] == names[1]:
        raise BadCase("double")


def case_plays(deed, lives, takes, fails):
    """Return the plays in which these gifts have takers and those have none."""
    chains = [deed.chain(name) for name in takes]
    failing = [deed.chain(name) for name in fails]
    # One taker is enough for a gift that has takers, or ahead of one that has none.
    needed = [*[chain[-1:] for chain in chains], *[chain[:-1] for chain in failing], (), ()]
    gifts = [gift for chain in (*chains, *failing) for gift in chain]
    start = Record(lives)
    play = Play(start, Cast(start, gifts, needed[0], needed[1]))
    held = [play.scene.question(chain).has_takers() for chain in chains]
    free = [play.scene.question(chain).has_none() for chain in failing]
    play.sentence = all_of([*held, *free])
    return [play]


def least_case(deed, lives, *, takes=(), fails=()):
    """Return a record with as few rows as there can be in which these gifts have takers and those none, or None."""
    require_case(deed, lives, takes, fails)
    return fewest_rows(case_plays(deed, lives, takes, fails))


def case_fault(deed, lives, found, *, takes=(), fails=()):
    """Return the word for a result of least_case, None if it is right."""
    require_case(deed, lives, takes, fails)
    plays = case_plays(deed, lives, takes, fails)
    if found is None:
        return "possible" if are_met(plays) else None
    if not isinstance(found, Record) or found.lives != lives:
        return "record"
    if not all([len(deed.takers(name, found)) > 0 for name in takes]):
        return "takes"
    if not all([len(deed.takers(name, found)) == 0 for name in fails]):
        return "fails"
    return "fewest" if len(found) > 0 and are_met(plays, len(found) - 1) else None


def idle_conditions(deed, name, lives):
    """Return the indexes of the conditions of the gift that can be left out one by one."""
    chain = deed.chain(name)
    require_lives(lives, deed.chain_lives(name))
    found = []
    for at in range(len(chain[-1].conditions)):
        other = (*chain[:-1], without_condition(chain[-1], at))
        if not are_met(parting_plays(chain, other, lives)):
            found.append(at)
    return tuple(found)


def without_condition(gift, at):
    """Return the gift without one of its conditions."""
    conditions = [*gift.conditions[:at], *gift.conditions[at + 1:]]
    return remade(gift, gift.taker, gift.date, conditions)


def idle_gifts(deed, lives):
    """Return the names of the gifts that have takers in no record."""
    require_deed_lives(deed, lives)
    return tuple([name for name in deed.names if not are_met(case_plays(deed, lives, (name,), ()))])


def sure_gifts(deed, lives):
    """Return the names of the gifts that have takers in every record."""
    require_deed_lives(deed, lives)
    return tuple([name for name in deed.names if not are_met(case_plays(deed, lives, (), (name,)))])
