"""Systems of instants and links, and paths through the links [5.1] to [5.3]."""

from lastlife.errors import BadSystem, BadTimes

MOST_INSTANTS = 12
MOST_LINKS = 200


class System:
    """So many instants, and links that say how far the time of one can be above that of another."""

    def __init__(self, count, links=()):
        if not is_number(count) or not 1 <= count <= MOST_INSTANTS:
            raise BadSystem(None, "count")
        if not isinstance(links, (list, tuple)) or len(links) > MOST_LINKS:
            raise BadSystem(None, "links")
        for index, link in enumerate(links):
            what = link_fault(count, link)
            if what is not None:
                raise BadSystem(index, what)
        self.count = count
        self.links = tuple([tuple(link) for link in links])

    def keeps(self, times):
        """Return whether the times keep all links."""
        return len(self.broken(times)) == 0

    def broken(self, times):
        """Return the indexes of the links that the times do not keep."""
        if not are_times(times, self.count):
            raise BadTimes()
        return broken_links(self.links, times)

    def with_links(self, *links):
        """Return the system with these links behind its own ones."""
        return System(self.count, self.links + links)

    def __eq__(self, other):
        return isinstance(other, System) and self.count == other.count and self.links == other.links

    def __len__(self):
        return len(self.links)

    def __iter__(self):
        return iter(self.links)


def is_number(thing):
    """Return whether the thing is a whole number."""
    return isinstance(thing, int) and not isinstance(thing, bool)


def is_instant(thing, count):
    """Return whether the thing is one of so many instants."""
    return is_number(thing) and 0 <= thing < count


def are_times(times, count):
    """Return whether the thing is a list or tuple of a whole number for each instant."""
    return isinstance(times, (list, tuple)) and len(times) == count and all([is_number(time) for time in times])


def link_fault(count, link):
    """Return the word for a link between so many instants, or None."""
    if not isinstance(link, (list, tuple)) or len(link) != 3 or not all([is_number(part) for part in link]):
        return "link"
    return None if is_instant(link[0], count) and is_instant(link[1], count) else "instant"


def is_kept(link, times):
    """Return whether the times keep the link."""
    return times[link[0]] - times[link[1]] <= link[2]


def broken_links(links, times):
    """Return the indexes of those links that the times do not keep."""
    return tuple([index for index, link in enumerate(links) if not is_kept(link, times)])


def path_sum(links, path):
    """Return the sum of a path."""
    return sum([links[index][2] for index in path])


def are_indexes(links, path):
    """Return whether all numbers of a path are indexes of links."""
    return all([is_instant(index, len(links)) for index in path])


def fits(links, before, behind):
    """Return whether a link begins where the link before it ends."""
    return links[behind][1] == links[before][0]


def path_fault(system, path, start, end):
    """Return the word for a path from the start to the end, None if it leads there."""
    links = system.links
    if not are_indexes(links, path):
        return "index"
    if len(path) == 0:
        return None if start == end else "end"
    if links[path[0]][1] != start:
        return "start"
    if not all([fits(links, before, behind) for before, behind in zip(path[:-1], path[1:])]):
        return "joint"
    return None if links[path[-1]][0] == end else "end"
