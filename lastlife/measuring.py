"""Which lives measure a gift well [6.9] [6.10]."""

from lastlife.bounds import NO_BOUND
from lastlife.calls import called_chain
from lastlife.lives import require_lives
from lastlife.reach import is_good
from lastlife.reaches import Reaches
from lastlife.record import Record


def sets_of(names):
    """Return all sets of at least one name, smaller ones first, then in the order of the names."""
    found = []
    sets = [()]
    for _ in names:
        # Each set grows by the names behind its last one, so sets of one size come in order.
        sets = [(*members, name) for members in sets for name in behind(names, members)]
        found.extend(sets)
    return found


def behind(names, members):
    """Return the names behind the last one of the members."""
    return names if len(members) == 0 else names[names.index(members[-1]) + 1:]


def holds_all(names, others):
    """Return whether all other names are among the names."""
    return all([other in names for other in others])


def outer_first(sets):
    """Return first the set of all names, then those of one name, then the others, greater ones first."""
    lone = [members for members in sets if len(members) == 1]
    return [sets[-1], *lone, *[members for members in sets[::-1] if len(members) > 1]]


def measuring_table(deed, name, lives):
    """Return the number of the gift at the beginning for each set of measuring lives."""
    record = Record(lives)
    found = {}
    # For more measuring lives the number is no greater, so other sets tell between which numbers to look.
    for members in outer_first(sets_of(lives.names)):
        least = max([found[other] for other in found if holds_all(other, members)], default=0)
        most = min([found[other] for other in found if holds_all(members, other)], default=NO_BOUND)
        if least < most:
            least = Reaches(deed, name, record, 0, members).look(least, most)
        found[members] = least
    return tuple([(members, None if found[members] == NO_BOUND else found[members])
                  for members in sets_of(lives.names)])


def measuring_sets(deed, name, lives):
    """Return the sets for which the gift is good while it is not for any smaller set within."""
    record = Record(lives)
    found = []
    # For fewer measuring lives the number is no less, so if it is too great for all of them, it is for each set.
    if not is_good(deed, name, record):
        return ()
    for members in sets_of(lives.names):
        if not any([holds_all(members, other) for other in found]):
            if is_good(deed, name, record, measuring=members):
                found.append(members)
    return tuple(found)


def is_alone(deed, name, lives, life):
    """Return whether the gift is good if this life alone measures."""
    record = Record(lives)
    called_chain(deed, name, record)
    require_lives(lives, (life,))
    return is_good(deed, name, record, measuring=(life,))
