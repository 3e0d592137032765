"""How many newcomers are enough to look at [0.4], and in which places of the family."""

from lastlife.dates import Close, Earlier, First, Last, Later, Plus
from lastlife.gifts import dates_of
from lastlife.kin import Children
from lastlife.takers import FirstReaching, Mate, Named, Told


def places_of(kin, past, places):
    """Return those of the places from which the members of a kin come."""
    if isinstance(kin, Children):
        return [("child", kin.life)]
    below = [("child", child) for child in past.children(kin.life)]
    return [("grand", kin.life), *[place for place in below if place in places]]


def newcomer_kin(taker):
    """Return the kin whose newcomers a taker can give a gift, None if it gives none to the newcomers of a kin."""
    return None if isinstance(taker, (Named, Mate, Told)) else taker.kin


def class_dates_in(date):
    """Return the class dates within a date."""
    if isinstance(date, Plus):
        return class_dates_in(date.date)
    if isinstance(date, (Earlier, Later)):
        return [found for inner in date.dates for found in class_dates_in(inner)]
    return [date] if date.class_dates > 0 else []


def class_places(chain, past):
    """Return the places of those whose births and deaths determine the years of class dates."""
    found = {}
    for gift in chain:
        for date in dates_of(gift.date, gift.conditions):
            for part in class_dates_in(date):
                if not is_fixed(part, past):
                    found[("child", part.kin.life)] = True
    return list(found)


def is_fixed(date, past):
    """Return whether a class date is a first birth of a kin that has members already."""
    return isinstance(date, First) and date.what == "birth" and len(date.kin.members(past)) > 0


def all_places(chain, past):
    """Return the places from which newcomers count."""
    found = {place: True for place in class_places(chain, past)}
    for gift in chain:
        kin = newcomer_kin(gift.taker)
        if kin is not None:
            found[("child", kin.life)] = True
            if not isinstance(kin, Children):
                found[("grand", kin.life)] = True
    return list(found)


def pool_sizes(chain, past, subject=None):
    """Return for each place how many newcomers are enough if the subject of the row in question is in this place."""
    places = all_places(chain, past)
    sizes = {place: 0 for place in places}
    last = chain[-1].taker
    takes = taking_places(last, past, places)
    # Beside the one who takes or not: another one who reaches an age first, or who takes a gift ahead.
    others = takes if isinstance(last, FirstReaching) else []
    others = [*others, *[place for gift in chain[:-1] for place in taking_places(gift.taker, past, places)]]
    for place in places:
        sizes[place] = (1 if place in takes else 0) + (1 if place in others else 0)
    for place in class_places(chain, past):
        sizes[place] += 2 if place == subject else 1
    for place in places:
        if place[0] == "grand":
            # Two newcomers can have one parent, unless the parents count themselves.
            lone = sizes[("child", place[1])] == 0
            sizes[("child", place[1])] += min(1, sizes[place]) if lone else sizes[place]
    return sizes


def taking_places(taker, past, places):
    """Return the places of the newcomers whom a taker can give a gift."""
    kin = newcomer_kin(taker)
    return [] if kin is None else places_of(kin, past, places)
