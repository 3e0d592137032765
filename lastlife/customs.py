"""The customs by which children are born, lives wed and gifts are good [1.2]."""

from lastlife.errors import BadCustoms
from lastlife.years import MOST, is_whole

MOST_AGE_OF_CUSTOMS = 1000


class Customs:
    """The ages and years of births and weddings, and the greatest number of a good gift."""

    def __init__(self, parent_age=1, *, years_after=1, wed_age=0, limit=21):
        if not is_whole(parent_age, 1, MOST_AGE_OF_CUSTOMS):
            raise BadCustoms("parent_age")
        if not is_whole(years_after, 0, MOST_AGE_OF_CUSTOMS):
            raise BadCustoms("years_after")
        if not is_whole(wed_age, 0, MOST_AGE_OF_CUSTOMS):
            raise BadCustoms("wed_age")
        if not is_whole(limit, 0, MOST):
            raise BadCustoms("limit")
        self.parent_age = parent_age
        self.years_after = years_after
        self.wed_age = wed_age
        self.limit = limit

    def __eq__(self, other):
        return (isinstance(other, Customs)
                and self.parent_age == other.parent_age
                and self.years_after == other.years_after
                and self.wed_age == other.wed_age
                and self.limit == other.limit)
