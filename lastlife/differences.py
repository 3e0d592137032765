"""The greatest differences of the times of two instants [5.5] [5.6]."""

from lastlife.errors import NoInstant, NoTimes
from lastlife.paths import Ways
from lastlife.solving import Ring, solved, solved_links, times_fault
from lastlife.systems import is_instant, path_fault, path_sum


class Greatest:
    """The greatest difference of two instants, a path with this sum and times with this difference."""

    def __init__(self, amount, path, times):
        self.amount = amount
        self.path = path
        self.times = times


class Endless:
    """Instants that can be raised as far as one likes, and times that keep the system."""

    def __init__(self, apart, times):
        self.apart = apart
        self.times = times


def require_instants(count, one, other):
    """Raise NoInstant for the first of the two that is none of so many instants."""
    for thing in (one, other):
        if not is_instant(thing, count):
            raise NoInstant(thing)


def kept_times(system):
    """Return times that keep the system; raise NoTimes if there are none."""
    answer = solved(system)
    if isinstance(answer, Ring):
        raise NoTimes(answer.path)
    return answer.times


def greatest(system, one, other):
    """Return the greatest difference of one and other, as a Greatest or an Endless."""
    require_instants(system.count, one, other)
    return greatest_kept(system.count, system.links, one, other, kept_times(system))


def greatest_kept(count, links, one, other, times):
    """Return the greatest difference under the links, which the times keep."""
    ways = Ways(count, links, other)
    if ways.sums[one] is None:
        return Endless(ways.out_of_reach(), times)
    return Greatest(ways.sums[one], ways.path_to(one), ways.times_beside(times))


def greatest_fault(system, one, other, answer):
    """Return the word for an answer of greatest, None if it is right."""
    require_instants(system.count, one, other)
    if isinstance(answer, Endless):
        return endless_fault(system, one, other, answer)
    what = path_fault(system, answer.path, other, one)
    if what is not None:
        return what
    if path_sum(system.links, answer.path) != answer.amount:
        return "sum"
    what = times_fault(system.count, system.links, answer.times)
    if what is not None:
        return what
    return "amount" if answer.times[one] - answer.times[other] != answer.amount else None


def endless_fault(system, one, other, answer):
    """Return the word for an Endless, None if it is right."""
    if not are_ascending(answer.apart, system.count):
        return "apart"
    if one not in answer.apart:
        return "one"
    if other in answer.apart:
        return "other"
    if len([link for link in system.links if link[0] in answer.apart and link[1] not in answer.apart]) > 0:
        return "leak"
    return times_fault(system.count, system.links, answer.times)


def are_ascending(instants, count):
    """Return whether these are some of so many instants, strictly ascending."""
    if not all([is_instant(thing, count) for thing in instants]):
        return False
    return all([before < behind for before, behind in zip(instants[:-1], instants[1:])])


def times_with(system, one, other, amount):
    """Return times that keep the system with exactly this difference, None if there are none."""
    require_instants(system.count, one, other)
    answer = solved_links(system.count, (*system.links, (one, other, amount), (other, one, -amount)))
    return None if isinstance(answer, Ring) else answer.times


def spans(system):
    """Return all greatest differences as a tuple of rows, None where there is no greatest one."""
    kept_times(system)
    columns = [Ways(system.count, system.links, other).sums for other in range(system.count)]
    return tuple([tuple([column[one] for column in columns]) for one in range(system.count)])
