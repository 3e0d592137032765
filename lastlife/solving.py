"""Times that keep a system, or a ring that shows that there are none [5.4]."""

from lastlife.systems import are_indexes, broken_links, fits, path_sum


class Kept:
    """Times that keep a system, or under which a formula holds."""

    def __init__(self, times):
        self.times = times


class Ring:
    """A ring whose sum is below 0, as the indexes of its links."""

    def __init__(self, path):
        self.path = path


def solved(system):
    """Return times that keep the system, or a ring whose sum is below 0."""
    return solved_links(system.count, system.links)


def solved_links(count, links):
    """Return times that keep the links between so many instants, or a ring whose sum is below 0."""
    times = [0] * count
    steps = [None] * count
    for _ in range(count):
        last = lowered(times, steps, links)
        if last is None:
            return Kept(tuple(times))
    return Ring(ring_behind(steps, links, last, count))


def lowered(times, steps, links):
    """Lower each time that a link asks to be lower, and note by which link; return the last such instant, or None."""
    last = None
    for index, (one, other, most) in enumerate(links):
        if times[other] + most < times[one]:
            times[one] = times[other] + most
            steps[one] = index
            last = one
    return last


def ring_behind(steps, links, last, count):
    """Return the ring from which the noted links lead to an instant."""
    start = last
    for _ in range(count):
        start = links[steps[start]][1]
    path = [steps[start]]
    while links[path[-1]][1] != start:
        path.append(steps[links[path[-1]][1]])
    return tuple(path[::-1])


def solved_fault(system, answer):
    """Return the word for an answer of solved, None if it is right."""
    if isinstance(answer, Kept):
        return times_fault(system.count, system.links, answer.times)
    what = ring_fault(system.links, answer.path)
    if what is not None:
        return what
    return "sum" if path_sum(system.links, answer.path) >= 0 else None


def times_fault(count, links, times):
    """Return the word for times that are to keep the links between so many instants, or None."""
    if len(times) != count:
        return "count"
    return "link" if len(broken_links(links, times)) > 0 else None


def ring_fault(links, path):
    """Return the word for a path that is to be a ring, or None."""
    if len(path) == 0:
        return "empty"
    if not are_indexes(links, path):
        return "index"
    befores = [path[-1], *path[:-1]]
    return None if all([fits(links, before, behind) for before, behind in zip(befores, path)]) else "joint"
