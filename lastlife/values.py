"""The years of dates in a world, and the sentences that compare them.

A value is a time of the world, a pair of whole numbers, or a pair of a word and a list of pairs of a sentence
and a value: the LEAST or the GREATEST of the values whose sentences hold; there always is one.
"""

from lastlife.dates import Close, Death, Earlier, First, Happening, Last, Later, Plus, Survivor, Year
from lastlife.kin import Children
from lastlife.sentences import all_of, denied, some_of
from lastlife.world import AT_NEVER, ZERO, link

LEAST = "least"
GREATEST = "greatest"


def value_of(date, world, shorter):
    """Return the value of a date; what never comes has the time NEVER or a later one."""
    if isinstance(date, Year):
        return (ZERO, date.number)
    if isinstance(date, Death):
        return world.death(date.life, shorter)
    if isinstance(date, Survivor):
        return time_of(survivor_value(date.life, world, shorter), world)
    if isinstance(date, Happening):
        return world.happening(date.name, shorter)
    if isinstance(date, Close):
        return time_of(closing_value(date.kin, world, shorter), world)
    if isinstance(date, First):
        return time_of(first_value(date, world, shorter), world)
    if isinstance(date, Last):
        return time_of(last_value(date, world, shorter), world)
    if isinstance(date, Plus):
        return later_by(value_of(date.date, world, shorter), date.years)
    word = LEAST if isinstance(date, Earlier) else GREATEST
    return (word, [(True, value_of(inner, world, shorter)) for inner in date.dates])


def is_time(value):
    """Return whether a value is one time."""
    return not isinstance(value[0], str)


def time_of(value, world):
    """Return a time for a value, so that it is told but once by which of its parts the value stands."""
    if is_time(value):
        return value
    for known, time in world.named:
        if known == value:
            return time
    time = world.free_time()
    world.named.append((value, time))
    world.rules.extend([at_most(value, time), at_most(time, value)])
    return time


def later_by(value, years):
    """Return the value that is so many years behind another one."""
    if is_time(value):
        return (value[0], value[1] + years)
    return (value[0], [(holds, later_by(part, years)) for holds, part in value[1]])


def survivor_value(life, world, shorter):
    """Return the value of the later one of the deaths of a life and its last mate."""
    pairs = [(holds, world.death(mate, shorter)) for mate, holds in world.mates(life, shorter)]
    death = world.death(life, shorter)
    return (GREATEST, [(True, death), *pairs]) if len(pairs) > 0 else death


def closing_value(kin, world, shorter):
    """Return the value of the closing of a kin."""
    death = world.death(kin.life, shorter)
    if isinstance(kin, Children):
        return later_by(death, world.past.customs.years_after)
    children = world.members(Children(kin.life), shorter)
    deaths = [(world.is_there(child), world.death(child, shorter)) for child in children]
    return later_by((GREATEST, [(True, death), *deaths]), world.past.customs.years_after)


def first_value(date, world, shorter):
    """Return the value of the first birth, death or coming of age."""
    members = world.members(date.kin, shorter)
    # Newcomers who do not come are born, and die, never.
    if date.what == "birth":
        years = [(True, world.birth(member)) for member in members]
    elif date.what == "death":
        years = [(True, world.death(member, shorter)) for member in members]
    else:
        years = [(reaches_sentence(world, member, date.what, shorter), later_by(world.birth(member), date.what))
                 for member in members]
    return (LEAST, [*years, (True, AT_NEVER)])


def last_value(date, world, shorter):
    """Return the value of the last death or coming of age."""
    years = []
    for member in world.members(date.kin, shorter):
        death = world.death(member, shorter)
        if date.what != "death":
            death = (LEAST, [(True, death), (True, later_by(world.birth(member), date.what))])
        years.append((world.is_there(member), death))
    return (GREATEST, [(True, closing_value(date.kin, world, shorter)), *years])


def reaches_sentence(world, person, age, shorter):
    """Return the sentence that a person reaches an age."""
    return link(world.birth(person), world.death(person, shorter), -age)


def at_most(one, other, most=0):
    """Return the sentence that one value is at most so many years above another one."""
    if not is_time(one):
        if one[0] == LEAST:
            return some_of([all_of([holds, at_most(part, other, most)]) for holds, part in one[1]])
        return all_of([some_of([denied(holds), at_most(part, other, most)]) for holds, part in one[1]])
    if not is_time(other):
        if other[0] == GREATEST:
            return some_of([all_of([holds, at_most(one, part, most)]) for holds, part in other[1]])
        return all_of([some_of([denied(holds), at_most(one, part, most)]) for holds, part in other[1]])
    return link(one, other, most)


def comes(value):
    """Return the sentence that the date of a value comes."""
    return at_most(value, AT_NEVER, -1)
