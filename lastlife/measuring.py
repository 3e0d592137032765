"""Which lives measure a gift well [6.9] [6.10]."""

from lastlife.bounds import NO_BOUND
from lastlife.calls import called_chain
from lastlife.lives import require_lives
from lastlife.reach import Reaches, is_good
from lastlife.record import Record


def sets_of(names):
    """Return all sets of at least one name, smaller ones first, then in the order of the names."""
    found = []
    sets = [()]
    for _ in names:
        # Each set grows by the names behind its last one, so sets of one size come in order.
        sets = [(*members, name) for members in sets for name in behind(names, members)]
        found.extend(sets)
    return found


def behind(names, members):
    """Return the names behind the last one of the members."""
    return names if len(members) == 0 else names[names.index(members[-1]) + 1:]


def holds_all(names, others):
    """Return whether all other names are among the names."""
    return all([other in names for other in others])


def measuring_table(deed, name, lives):
    """Return the number of the gift at the beginning for each set of measuring lives."""
    record = Record(lives)
    found = {}
    # For more measuring lives the number is no greater, so greater sets tell from where to look.
    for members in sets_of(lives.names)[::-1]:
        floor = max([found[other] for other in found if holds_all(other, members)], default=0)
        if floor < NO_BOUND:
            floor = Reaches(deed, name, record, 0, members).lags.look(floor)
        found[members] = floor
    return tuple([(members, None if found[members] == NO_BOUND else found[members])
                  for members in sets_of(lives.names)])


def measuring_sets(deed, name, lives):
    """Return the sets for which the gift is good while it is not for any smaller set within."""
    record = Record(lives)
    found = []
    for members in sets_of(lives.names):
        if not any([holds_all(members, other) for other in found]):
            if is_good(deed, name, record, measuring=members):
                found.append(members)
    return tuple(found)


def is_alone(deed, name, lives, life):
    """Return whether the gift is good if this life alone measures."""
    record = Record(lives)
    called_chain(deed, name, record)
    require_lives(lives, (life,))
    return is_good(deed, name, record, measuring=(life,))
