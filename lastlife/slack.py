"""The least mean of all rings [5.11]."""

from lastlife.ratios import lowest
from lastlife.solving import Kept, ring_fault, solved_links, times_fault
from lastlife.systems import path_sum


class Slack:
    """The least mean of all rings, a ring that has it, and times that keep the links less this mean."""

    def __init__(self, ratio, path, times):
        self.ratio = ratio
        self.path = path
        self.times = times


def slack(system):
    """Return the least mean of the system's rings as a Slack, None if it has no ring."""
    answer = solved_links(system.count, [(one, other, -1) for one, other, _ in system.links])
    ratio = None
    path = ()
    # Each ring that is found has a lesser mean than the one ahead, and there are few rings.
    while not isinstance(answer, Kept):
        path = answer.path
        ratio = mean(system.links, path)
        answer = solved_links(system.count, slackened(system.links, ratio))
    return None if ratio is None else Slack(ratio, path, answer.times)


def mean(links, path):
    """Return the sum of a ring divided by the number of its links."""
    return lowest(path_sum(links, path), len(path))


def slackened(links, ratio):
    """Return the links in which the mean of each ring is that much less, times the bottom of the ratio."""
    top, bottom = ratio
    return [(one, other, bottom * most - top) for one, other, most in links]


def slack_fault(system, answer):
    """Return the word for a Slack, None if it is right."""
    what = ring_fault(system.links, answer.path)
    if what is not None:
        return what
    if tuple(answer.ratio) != mean(system.links, answer.path):
        return "mean"
    return times_fault(system.count, slackened(system.links, answer.ratio), answer.times)
