"""Gifts: a taker, a date and conditions [3.6]."""

from lastlife.conditions import Condition
from lastlife.dates import Date, happenings_of
from lastlife.errors import BadGift
from lastlife.names import each_once
from lastlife.ratios import lowest
from lastlife.takers import Taker
from lastlife.years import MOST, is_name, is_whole

MOST_CONDITIONS = 4


class Gift:
    """A gift that the taker gets at the date if all conditions hold."""

    def __init__(self, name, taker, date, *conditions, over=None, until=None, part=(1, 1)):
        what = main_fault(name, taker, date, conditions)
        if what is None:
            what = place_fault(over, until, part)
        if what is not None:
            raise BadGift(what)
        dates = dates_of(date, conditions)
        self.name = name
        self.taker = taker
        self.date = date
        self.conditions = conditions
        self.over = over
        self.until = until
        self.part = lowest(part[0], part[1])
        self.lives_named = each_once([life for thing in (taker, *dates) for life in thing.lives_named])
        self.happenings = happenings_of(dates)
        self.class_dates = sum([inner.class_dates for inner in dates])

    def __eq__(self, other):
        return (isinstance(other, Gift)
                and self.name == other.name
                and self.taker == other.taker
                and self.date == other.date
                and self.conditions == other.conditions
                and self.over == other.over
                and self.until == other.until
                and self.part == other.part)


def deals_of(chain):
    """Return all that the takers of the gift at the end of a chain hang on."""
    return [(gift.taker, gift.date, gift.conditions) for gift in chain]


def remade(gift, taker, date, conditions):
    """Return the gift with another taker, date and conditions."""
    return Gift(gift.name, taker, date, *conditions, over=gift.over, until=gift.until, part=gift.part)


def main_fault(name, taker, date, conditions):
    """Return the word for what a gift is, or None."""
    if not is_name(name):
        return "name"
    if not isinstance(taker, Taker):
        return "taker"
    if not isinstance(date, Date):
        return "date"
    if len(conditions) > MOST_CONDITIONS or not all([isinstance(thing, Condition) for thing in conditions]):
        return "conditions"
    return None


def place_fault(over, until, part):
    """Return the word for where a gift stands and how long and how much it is, or None."""
    if over is not None and not is_name(over):
        return "over"
    if until is not None and not isinstance(until, Date):
        return "until"
    if not is_part(part) or (over is not None and part[0] != part[1]):
        return "part"
    return None


def is_part(part):
    """Return whether the thing is two whole numbers, the top at most the bottom."""
    if not isinstance(part, (list, tuple)) or len(part) != 2:
        return False
    return is_whole(part[1], 1, MOST) and is_whole(part[0], 1, part[1])


def dates_of(date, conditions):
    """Return the date of a gift and behind it the dates of its conditions."""
    dates = [date]
    for condition in conditions:
        dates.extend([condition.one, condition.other])
    return dates
