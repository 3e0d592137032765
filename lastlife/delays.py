"""How late something can come behind the last death of the measuring lives [6.11]."""

from lastlife.bounds import NO_BOUND
from lastlife.futures import ABOVE_ALL
from lastlife.lateness import Latest
from lastlife.search import Search
from lastlife.world import DEAD

NEVER_COMES = "never"
WITHIN = "within"
ENDLESS = "endless"


def latest_of(scene, sentence, time):
    """Return how late a time of a scene's world can be if the sentence holds, as a Latest."""
    pair = (time[0], DEAD)
    found = scene.found(Search(pair, -ABOVE_ALL, NO_BOUND), sentence)
    if found == -ABOVE_ALL:
        return Latest(NEVER_COMES)
    if found == NO_BOUND:
        least = scene.world.past.customs.limit + 1
        return Latest(ENDLESS, None, scene.shown(pair, least - time[1]))
    return Latest(WITHIN, found + time[1], scene.shown(pair, found))
