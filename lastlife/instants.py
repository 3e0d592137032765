"""Systems with one instant less [5.10]."""

from lastlife.errors import BadTimes, NoInstant
from lastlife.systems import System, are_times, broken_links, is_instant


def require_instant(system, instant):
    """Raise NoInstant unless the thing is one of several instants of the system."""
    if not is_instant(instant, system.count) or system.count == 1:
        raise NoInstant(instant)


def moved(other, instant):
    """Return the number of another instant once the instant is left out."""
    return other - 1 if other > instant else other


def without_instant(system, instant):
    """Return the system of the other instants that some times of the left out one complete."""
    require_instant(system, instant)
    least = {}
    for one, other, most in [*links_beside(system, instant), *links_through(system, instant)]:
        pair = (one, other)
        if (one != other or most < 0) and (pair not in least or most < least[pair]):
            least[pair] = most
    return System(system.count - 1, [(one, other, least[(one, other)]) for one, other in sorted(least)])


def links_beside(system, instant):
    """Return the links that do not name the instant, in the new numbers."""
    return [(moved(one, instant), moved(other, instant), most) for one, other, most in system.links
            if instant not in (one, other)]


def links_through(system, instant):
    """Return the links that follow from those that name the instant, in the new numbers."""
    ups = [(one, most) for one, other, most in system.links if other == instant and one != instant]
    downs = [(other, most) for one, other, most in system.links if one == instant and other != instant]
    # No times keep a ring of one link below 0; no times keep this link either.
    alone = [(0, 0, most) for one, other, most in system.links if one == instant and other == instant and most < 0]
    return [*[(moved(one, instant), moved(other, instant), up + down) for one, up in ups for other, down in downs],
            *alone]


def window(system, instant, times):
    """Return the least and the greatest time of the instant that complete the others, or None if none do."""
    require_instant(system, instant)
    if not are_times(times, system.count - 1):
        raise BadTimes()
    others = [link for link in system.links if instant not in link[:2]]
    around = [*times[:instant], 0, *times[instant:]]
    alone = [link for link in system.links if link[0] == instant and link[1] == instant]
    if len(broken_links([*others, *alone], around)) > 0:
        return None
    least = max([around[one] - most for one, other, most in system.links if other == instant and one != instant],
                default=None)
    greatest = min([around[other] + most for one, other, most in system.links if one == instant and other != instant],
                   default=None)
    return None if least is not None and greatest is not None and least > greatest else (least, greatest)
