"""Links that follow from other links [5.7] to [5.9]."""

from lastlife.differences import kept_times
from lastlife.errors import BadSystem, OtherCount
from lastlife.paths import Ways
from lastlife.solving import solved_links, times_fault
from lastlife.systems import is_kept, link_fault, path_fault, path_sum


class Implied:
    """A path whose sum shows that a link is implied."""

    def __init__(self, path):
        self.path = path


class Unimplied:
    """Times that keep a system and not a link."""

    def __init__(self, times):
        self.times = times


class Needed:
    """The links of a system that are not implied by the other ones, and those that are, each with what shows it."""

    def __init__(self, kept, dropped):
        self.kept = kept
        self.dropped = dropped


class KeptByAll:
    """For each link of one system a path of another one that implies it."""

    def __init__(self, paths):
        self.paths = paths


class PartedAt:
    """The first link that is not implied, and times that keep the other system and not this link."""

    def __init__(self, index, times):
        self.index = index
        self.times = times


def require_link(system, link):
    """Raise BadSystem unless the thing is a link between the system's instants."""
    what = link_fault(system.count, link)
    if what is not None:
        raise BadSystem(0, what)


def implied(system, link):
    """Return whether the link is implied by the system, as an Implied or an Unimplied."""
    require_link(system, link)
    kept_times(system)
    return implied_by(system.count, system.links, link)


def implied_by(count, links, link):
    """Return whether a link is implied by other links, which some times keep."""
    path = implying_path(count, links, link)
    return Unimplied(breaking_times(count, links, link)) if path is None else Implied(path)


def implying_path(count, links, link):
    """Return a path that implies a link, None if there is none."""
    one, other, most = link
    ways = Ways(count, links, other)
    return ways.path_to(one) if ways.sums[one] is not None and ways.sums[one] <= most else None


def breaking_times(count, links, link):
    """Return times that keep the links and not a link that they do not imply."""
    return solved_links(count, (*links, (link[1], link[0], -link[2] - 1))).times


def implied_fault(system, link, answer):
    """Return the word for an answer of implied, None if it is right."""
    require_link(system, link)
    if isinstance(answer, Implied):
        what = path_fault(system, answer.path, link[1], link[0])
        if what is not None:
            return what
        return "sum" if path_sum(system.links, answer.path) > link[2] else None
    what = times_fault(system.count, system.links, answer.times)
    if what is not None:
        return what
    return "kept" if is_kept(link, answer.times) else None


def needed(system):
    """Drop each link that the others imply, one after the other, and return what is kept and what is dropped."""
    kept_times(system)
    left = list(range(len(system.links)))
    for index in range(len(system.links)):
        others = [other for other in left if other != index]
        if implying_path(system.count, links_at(system, others), system.links[index]) is not None:
            left = others
    kept = [(index, breaking_times(system.count, links_at(system, [other for other in left if other != index]),
                                   system.links[index])) for index in left]
    links = links_at(system, left)
    dropped = []
    for index in range(len(system.links)):
        if index not in left:
            path = implying_path(system.count, links, system.links[index])
            dropped.append((index, tuple([left[step] for step in path])))
    return Needed(tuple(kept), tuple(dropped))


def links_at(system, indexes):
    """Return the links with these indexes."""
    return [system.links[index] for index in indexes]


def compare_systems(one, other):
    """Return whether all times that keep other keep one, as a KeptByAll or a PartedAt."""
    if one.count != other.count:
        raise OtherCount()
    kept_times(other)
    paths = []
    for index, link in enumerate(one.links):
        answer = implied_by(other.count, other.links, link)
        if isinstance(answer, Unimplied):
            return PartedAt(index, answer.times)
        paths.append(answer.path)
    return KeptByAll(tuple(paths))
