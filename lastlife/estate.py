"""Who gets and who holds how much of the estate [3.10] [3.11]."""

from lastlife.errors import BadYear
from lastlife.lives import require_lives
from lastlife.ratios import added, multiplied, taken_from
from lastlife.years import MOST_YEAR, is_whole

ALL_OF_IT = (1, 1)


def shares(deed, name, record):
    """Return the pairs of a taker of the gift and its share in the gift."""
    takers = deed.takers(name, record)
    return tuple([(person, (1, len(takers))) for person in takers])


def heirs(deed, record):
    """Return the pairs of a person and its share in the estate."""
    return summed(deed, record, [(gift.name, deed.takers(gift.name, record)) for gift in deed.gifts])


def rest(deed, record):
    """Return the ratio of the estate that nobody gets."""
    return left_over(heirs(deed, record))


def summed(deed, record, rows):
    """Return the pairs of a person and the sum of its parts; the rows tell names of gifts and their persons."""
    sums = {}
    for name, persons in rows:
        for person in persons:
            part = multiplied(deed.chain(name)[0].part, (1, len(persons)))
            sums[person] = added(sums.get(person, (0, 1)), part)
    return tuple([(person, sums[person]) for person in record.persons if person in sums])


def left_over(rows):
    """Return what the ratios of the rows leave of 1."""
    parts = [part for _, part in rows]
    return taken_from(ALL_OF_IT, added(*parts))


def require_year(year):
    """Raise BadYear unless the thing is a year of a row, or 0."""
    if not is_whole(year, 0, MOST_YEAR):
        raise BadYear(year)


def until_lives(gift):
    """Return the lives that a gift's until names."""
    return () if gift.until is None else gift.until.lives_named


def require_estate(deed, record):
    """Raise NoLife for the first life that a gift or its until names and that is none of the record."""
    for gift in deed.gifts:
        require_lives(record.lives, (*gift.lives_named, *until_lives(gift)))


def holders(deed, name, record, year):
    """Return the takers of the gift if they hold it at the year."""
    deed.takers(name, record)
    require_lives(record.lives, until_lives(deed[name]))
    require_year(year)
    return holders_at(deed, name, record, year)


def holders_at(deed, name, record, year):
    """Return the takers of the gift if they hold it at the year, which is a year."""
    gift = deed[name]
    start = gift.date.year(record)
    if start is None or year < start:
        return ()
    end = None if gift.until is None else gift.until.year(record)
    return deed.takers(name, record) if end is None or year < end else ()


def held(deed, record, year):
    """Return the pairs of a person and what it holds of the estate at the year."""
    require_estate(deed, record)
    require_year(year)
    return held_at(deed, record, year)


def held_at(deed, record, year):
    """Return the pairs of a person and what it holds at the year, which is a year."""
    return summed(deed, record, [(gift.name, holders_at(deed, gift.name, record, year)) for gift in deed.gifts])


def unheld(deed, record, year):
    """Return the ratio of the estate that nobody holds at the year."""
    return left_over(held(deed, record, year))


def course(deed, record):
    """Return the pairs of a year and what is held from this year on, for each year in which that changes."""
    require_estate(deed, record)
    found = [(0, held_at(deed, record, 0))]
    for year in turns(deed, record):
        rows = held_at(deed, record, year)
        if rows != found[-1][1]:
            found.append((year, rows))
    return tuple(found)


def turns(deed, record):
    """Return the years of rows, ascending, in which a gift comes or ceases to be held."""
    dates = [date for gift in deed.gifts for date in (gift.date, gift.until) if date is not None]
    years = {date.year(record): True for date in dates}
    return sorted([year for year in years if year is not None and 1 <= year <= MOST_YEAR])
