"""Changes of deeds [10.1] [10.2]."""

from lastlife.conditions import By, Unless
from lastlife.dates import Death, Earlier, Later, Plus, Survivor
from lastlife.deed import Deed, require_deed_lives
from lastlife.errors import BadChange, BadDate
from lastlife.gifts import MOST_CONDITIONS, dates_of, remade
from lastlife.takers import FirstReaching, Mate, Named, Reaching, Told
from lastlife.years import MOST, is_name, is_whole

MOST_LIVES = 4
LENGTHS = {"age": 3, "within": 3, "told": 2, "mate": 4, "drop": 3, "cut": 2}


def is_change(thing):
    """Return whether the thing has one of the six forms."""
    if not isinstance(thing, (list, tuple)) or len(thing) < 2:
        return False
    word = thing[0]
    if not isinstance(word, str) or word not in LENGTHS or len(thing) != LENGTHS[word] or not is_name(thing[1]):
        return False
    if word == "mate":
        return is_name(thing[2]) and is_name(thing[3])
    if word == "drop":
        return is_whole(thing[2], 0, MOST_CONDITIONS - 1)
    return len(thing) == 2 or is_whole(thing[2], 0, MOST)


class Draft:
    """A deed and the changes that have been made in it so far."""

    def __init__(self, deed, lives):
        self.deed = deed
        self.lives = lives
        # The indexes that the conditions of each gift had at first.
        self.left = {gift.name: list(range(len(gift.conditions))) for gift in deed.gifts}

    def fault(self, change):
        """Return the word for a change that cannot be made, None if it can be."""
        if not is_change(change):
            return "change"
        if change[1] not in self.deed.names:
            return "gift"
        word, gift = change[0], self.deed[change[1]]
        if word in ("age", "told"):
            return None if has_taker_for(word, gift) else "taker"
        if word == "mate":
            return self.mate_fault(gift, change[2], change[3])
        if word == "drop":
            return None if change[2] in self.left[gift.name] else "condition"
        if word == "cut":
            return self.cut_fault(gift)
        return "lives" if len(self.lives) > MOST_LIVES else None

    def mate_fault(self, gift, life, other):
        """Return the word for a "mate" that cannot be made, None if only the depth of a date can hinder it."""
        if not self.lives.has(life) or not self.lives.has(other) or life == other:
            return "life"
        return None if names_survivor(dates_of(gift.date, gift.conditions), life) else "survivor"

    def cut_fault(self, gift):
        """Return the word for a "cut" that cannot be made, or None."""
        if gift.over is None:
            return "root"
        return "over" if gift.name in [other.over for other in self.deed.gifts] else None

    def make(self, change):
        """Make a change for which there is no word; BadDate tells that a date would be too deep."""
        word, gift = change[0], self.deed[change[1]]
        if word == "cut":
            gifts = [other for other in self.deed.gifts if other.name != gift.name]
            self.deed = Deed(*gifts)
        elif word == "age":
            self.put(gift, aged(gift.taker, change[2]), gift.date, gift.conditions)
        elif word == "told":
            self.put(gift, Told(gift.taker.kin), gift.date, gift.conditions)
        elif word == "within":
            self.put(gift, gift.taker, Earlier(gift.date, Plus(all_deaths(self.lives), change[2])), gift.conditions)
        elif word == "mate":
            new = Later(Death(change[2]), Death(change[3]))
            conditions = [condition_with(condition, change[2], new) for condition in gift.conditions]
            self.put(gift, gift.taker, date_with(gift.date, change[2], new), conditions)
        else:
            left = self.left[gift.name]
            kept = [condition for index, condition in zip(left, gift.conditions) if index != change[2]]
            self.left[gift.name] = [index for index in left if index != change[2]]
            self.put(gift, gift.taker, gift.date, kept)

    def put(self, gift, taker, date, conditions):
        """Put another taker, date and conditions into a gift."""
        self.deed = self.deed.with_gift(remade(gift, taker, date, conditions))


def has_taker_for(word, gift):
    """Return whether the taker of the gift can get another age, or can become Told."""
    if word == "age":
        return isinstance(gift.taker, (Reaching, FirstReaching))
    return not isinstance(gift.taker, (Named, Mate))


def aged(taker, age):
    """Return the taker with another age."""
    return FirstReaching(taker.kin, age) if isinstance(taker, FirstReaching) else Reaching(taker.kin, age)


def all_deaths(lives):
    """Return the date at which all lives have died, at most four."""
    deaths = [Death(life) for life in lives.names]
    return deaths[0] if len(deaths) == 1 else Later(*deaths)


def inner_dates(date):
    """Return the dates right within a date."""
    if isinstance(date, Plus):
        return (date.date,)
    return date.dates if isinstance(date, (Earlier, Later)) else ()


def names_survivor(dates, life):
    """Return whether the survivor of a life stands within one of the dates."""
    return any([date == Survivor(life) or names_survivor(inner_dates(date), life) for date in dates])


def date_with(date, life, new):
    """Return the date with a new date in the place of each survivor of a life."""
    if date == Survivor(life):
        return new
    if isinstance(date, Plus):
        return Plus(date_with(date.date, life, new), date.years)
    if not isinstance(date, (Earlier, Later)):
        return date
    dates = [date_with(inner, life, new) for inner in date.dates]
    return Earlier(*dates) if isinstance(date, Earlier) else Later(*dates)


def condition_with(condition, life, new):
    """Return the condition with a new date in the place of each survivor of a life."""
    one = date_with(condition.one, life, new)
    other = date_with(condition.other, life, new)
    return By(one, other) if isinstance(condition, By) else Unless(one, other)


def changed(deed, lives, changes):
    """Return the deed after all these changes."""
    require_deed_lives(deed, lives)
    draft = Draft(deed, lives)
    for index, change in enumerate(changes):
        what = draft.fault(change)
        if what is not None:
            raise BadChange(index, what)
        try:
            draft.make(change)
        except BadDate:
            raise BadChange(index, "depth") from None
    return draft.deed
