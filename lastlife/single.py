"""A gift to one member of a class [7.9]."""

from lastlife.conditions import By, Unless
from lastlife.dates import Death, Year
from lastlife.errors import NoRoom, NotMember
from lastlife.gifts import MOST_CONDITIONS, remade
from lastlife.lives import require_lives
from lastlife.members import require_class
from lastlife.record import Record
from lastlife.takers import FirstReaching, Living, Named, Reaching, Told


def alone(deed, name, lives, person):
    """Return the deed in which the gift is a gift to one of its members."""
    gift = deed[name]
    require_lives(lives, deed.chain_lives(name))
    require_class(deed, name)
    require_lives(lives, (person,))
    members = gift.taker.kin.members(Record(lives))
    if person not in members:
        raise NotMember(person)
    conditions = [*gift.conditions, *member_conditions(gift, lives, members, person)]
    if len(conditions) > MOST_CONDITIONS:
        raise NoRoom(name)
    return deed.with_gift(remade(gift, Named(person), gift.date, conditions))


def member_conditions(gift, lives, members, person):
    """Return the conditions under which the taker of the gift gives it to the person."""
    taker = gift.taker
    if isinstance(taker, Told):
        return []
    if isinstance(taker, FirstReaching):
        elders = [other for other in members if comes_first(lives, members, other, person)]
        return [By(birthday(lives, person, taker.age), gift.date),
                By(birthday(lives, person, taker.age), Death(person)),
                *[Unless(birthday(lives, other, taker.age), Death(other)) for other in elders]]
    born = By(birthday(lives, person, 0), gift.date)
    if isinstance(taker, Living):
        return [born, By(gift.date, Death(person))]
    if isinstance(taker, Reaching):
        return [born, By(birthday(lives, person, taker.age), Death(person))]
    return [born]


def birthday(lives, person, age):
    """Return the date at which a life reaches an age."""
    return Year(age - lives.age(person))


def comes_first(lives, members, one, other):
    """Return whether one life comes ahead of another one: it is older, or as old and earlier among the members."""
    if lives.age(one) == lives.age(other):
        return members.index(one) < members.index(other)
    return lives.age(one) > lives.age(other)
