"""How many newcomers are enough to look at [0.4], and in which places of the family."""

from lastlife.dates import Close, Earlier, First, Last, Later, Plus
from lastlife.gifts import dates_of
from lastlife.kin import Children
from lastlife.takers import Mate, Named, Told


def places_of(kin, past, places):
    """Return those of the places from which the members of a kin come."""
    if isinstance(kin, Children):
        return [("child", kin.life)]
    below = [("child", child) for child in past.children(kin.life)]
    return [("grand", kin.life), *[place for place in below if place in places]]


def newcomer_kin(taker):
    """Return the kin whose newcomers a taker can give a gift, None if it gives none to the newcomers of a kin."""
    return None if isinstance(taker, (Named, Mate, Told)) else taker.kin


def class_dates_in(date):
    """Return the class dates within a date."""
    if isinstance(date, Plus):
        return class_dates_in(date.date)
    if isinstance(date, (Earlier, Later)):
        return [found for inner in date.dates for found in class_dates_in(inner)]
    return [date] if date.class_dates > 0 else []


def class_places(gifts, past):
    """Return for each class date, equal ones once, the place of those whose births and deaths determine its year."""
    found = []
    for gift in gifts:
        for date in dates_of(gift.date, gift.conditions):
            for part in class_dates_in(date):
                if part not in found and not is_fixed(part, past):
                    found.append(part)
    return [("child", part.kin.life) for part in found]


def is_fixed(date, past):
    """Return whether a class date is a first birth of a kin that has members already."""
    return isinstance(date, First) and date.what == "birth" and len(date.kin.members(past)) > 0


def all_places(gifts, classes):
    """Return the places from which newcomers count; classes are those on whom class dates hang."""
    found = {place: True for place in classes}
    for gift in gifts:
        kin = newcomer_kin(gift.taker)
        if kin is not None:
            found[("child", kin.life)] = True
            if not isinstance(kin, Children):
                found[("grand", kin.life)] = True
    return list(found)


def taking_places(gifts, past, places):
    """Return the places of the newcomers to whom the takers can give one of the gifts."""
    kins = [newcomer_kin(gift.taker) for gift in gifts]
    return [place for kin in kins if kin is not None for place in places_of(kin, past, places)]


def chain_cast(chain, past):
    """Return the cast for the gift at the end of a chain: one takes it, or one takes a gift ahead of it."""
    return Cast(past, chain, chain[-1:], chain[:-1])


class Cast:
    """How many newcomers are enough for some gifts, in which places.

    One newcomer takes one of the first gifts; another one takes one of the second ones, as it keeps the first one
    from its gift, or is asked for besides. Others determine the years of class dates, and some are but parents. The
    subject is the place of the newcomer of the row in question, None if there is none.
    """

    def __init__(self, past, gifts, first, second):
        self.classes = class_places(gifts, past)
        self.places = all_places(gifts, self.classes)
        self.taking = taking_places(first, past, self.places)
        self.others = taking_places(second, past, self.places)

    def is_idle(self, place):
        """Return whether nothing hangs on the newcomers of a place, who are but parents."""
        return place not in [*self.classes, *self.taking, *self.others]

    def is_one_of_two(self, subject):
        """Return whether the subject takes or keeps another one from it, as it can do nothing else."""
        return subject is not None and subject not in self.classes

    def roles(self, subject):
        """Return for each place how many of its newcomers beside the subject take or keep another one from it."""
        if not self.is_one_of_two(subject):
            return {place: (1 if place in self.taking else 0) + (1 if place in self.others else 0)
                    for place in self.places}
        return {place: 1 if self.fit_together(subject, place) else 0 for place in self.places}

    def fit_together(self, one, other):
        """Return whether one can take from the one place and one from the other can keep another one from it."""
        return (one in self.taking and other in self.others) or (one in self.others and other in self.taking)

    def own_sizes(self, subject):
        """Return for each place how many newcomers are enough without those who are but parents."""
        sizes = self.roles(subject)
        for place in self.classes:
            sizes[place] += 1
        if subject is not None:
            sizes[subject] += 1
        return sizes

    def sizes(self, subject):
        """Return for each place how many newcomers are enough."""
        sizes = self.own_sizes(subject)
        for place in self.places:
            if place[0] == "grand":
                above = ("child", place[1])
                many = sizes[place]
                # Two newcomers can have one parent, unless the parents count themselves.
                sizes[above] = sizes[above] + (min(1, many) if sizes[above] == 0 else many)
        return sizes

    def crowds(self, subject):
        """Return rows of newcomers who are not all needed at once, as but one takes and one keeps it from it."""
        sizes = self.sizes(subject)
        roles = self.roles(subject)
        places = [place for place in self.places if roles[place] > 0]
        # Newcomers stand in the order of their births, so the last ones of a place are those beyond the others.
        firsts = {place: (*place, sizes[place] - roles[place]) for place in places}
        found = []
        for at, one in enumerate(places):
            for next_at, other in enumerate(places[at + 1:], at + 1):
                if self.is_one_of_two(subject) or not self.fit_together(one, other):
                    found.append([firsts[one], firsts[other]])
                found.extend([[firsts[one], firsts[other], firsts[third]] for third in places[next_at + 1:]])
            if roles[one] == 2:
                found.extend([[(*one, sizes[one] - 1), firsts[beside]] for beside in places if beside != one])
        return found

    def parent_pairs(self, subject):
        """Return pairs of newcomers: the first one is but a parent, and needed only if the second one is there."""
        own = self.own_sizes(subject)
        sizes = self.sizes(subject)
        found = []
        for place in self.places:
            if place[0] == "grand":
                above = ("child", place[1])
                found.extend([((*above, number), (*place, number - own[above]))
                              for number in range(own[above], sizes[above])])
        return found
