"""Deeds: lists of gifts [3.7] [3.8]."""

from lastlife.errors import BadDeed, BadGift, NoGift
from lastlife.gifts import Gift
from lastlife.lives import require_lives
from lastlife.names import each_once
from lastlife.ratios import added

MOST_GIFTS = 8
LONGEST_CHAIN = 3


class Deed:
    """Gifts that stand by themselves or over one another."""

    def __init__(self, *gifts):
        if len(gifts) == 0:
            raise BadDeed(0, "empty")
        if len(gifts) > MOST_GIFTS:
            raise BadDeed(MOST_GIFTS, "many")
        told = {}
        for index, gift in enumerate(gifts):
            what = gift_fault(told, gift)
            if what is not None:
                raise BadDeed(index, what)
            told[gift.name] = gift
        self.gifts = gifts
        self._told = told

    @property
    def names(self):
        """The names of the gifts in order."""
        return tuple([gift.name for gift in self.gifts])

    def __getitem__(self, name):
        if not isinstance(name, str) or name not in self._told:
            raise NoGift(name)
        return self._told[name]

    def chain(self, name):
        """Return the gifts from the root on up to the gift of this name."""
        return tuple(chain_of(self._told, self[name]))

    def chain_lives(self, name):
        """Return the lives that the gifts of the chain name, each once."""
        return each_once([life for gift in self.chain(name) for life in gift.lives_named])

    def takers(self, name, record):
        """Return the persons who get the gift in the record."""
        chain = self.chain(name)
        require_lives(record.lives, self.chain_lives(name))
        for gift in chain[:-1]:
            if len(takers_alone(gift, record)) > 0:
                return ()
        return takers_alone(chain[-1], record)

    def with_gift(self, gift):
        """Return the deed in which the gift of the same name is replaced by this one."""
        if not isinstance(gift, Gift):
            raise BadGift("gift")
        at = self.names.index(self[gift.name].name)
        gifts = [*self.gifts[:at], gift, *self.gifts[at + 1:]]
        return Deed(*gifts)

    def __eq__(self, other):
        return isinstance(other, Deed) and self.gifts == other.gifts

    def __len__(self):
        return len(self.gifts)

    def __iter__(self):
        return iter(self.gifts)


def require_deed_lives(deed, lives):
    """Raise NoLife for the first life that a gift of the deed names and that is none of the lives."""
    for gift in deed.gifts:
        require_lives(lives, gift.lives_named)


def gift_fault(told, gift):
    """Return the word for a gift behind the gifts that are told, a dict by name, or None."""
    if not isinstance(gift, Gift):
        return "gift"
    if gift.name in told:
        return "double"
    if gift.over is None:
        return "part" if is_too_much(told, gift) else None
    if gift.over not in told:
        return "over"
    if gift.over in [other.over for other in list(told.values())]:
        return "taken"
    return "deep" if len(chain_of(told, gift)) > LONGEST_CHAIN else None


def is_too_much(told, gift):
    """Return whether the parts of the roots and of this one sum to more than 1."""
    parts = [other.part for other in list(told.values()) if other.over is None]
    top, bottom = added(gift.part, *parts)
    return top > bottom


def chain_of(told, gift):
    """Return the list of gifts from the root on up to this one."""
    chain = [gift]
    while chain[0].over is not None:
        chain = [told[chain[0].over], *chain]
    return chain


def takers_alone(gift, record):
    """Return the takers of a gift if no gift ahead has any."""
    year = gift.date.year(record)
    if year is None or not all([condition.holds(record) for condition in gift.conditions]):
        return ()
    return gift.taker.of(record, year)
