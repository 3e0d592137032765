"""All errors of the package [0.8]."""


class DeedError(ValueError):
    """The base of every other error."""


class BadCustoms(DeedError):
    """A value of customs is not a whole number in its range [1.2]."""

    def __init__(self, what):
        self.what = what


class BadLives(DeedError):
    """The customs or the rows of lives are wrong [1.3]."""

    def __init__(self, index, what):
        self.index = index
        self.what = what


class BadRecord(DeedError):
    """The lives or the rows of a record are wrong [1.9]."""

    def __init__(self, index, what):
        self.index = index
        self.what = what


class NoRow(DeedError):
    """A record without rows has no last row [1.12]."""


class NoLife(DeedError):
    """No life has this name."""

    def __init__(self, name):
        self.name = name


class NoPerson(DeedError):
    """No person has this name."""

    def __init__(self, name):
        self.name = name


class OtherLives(DeedError):
    """Two records have unlike lives [1.13]."""


class BadKin(DeedError):
    """A kin is made of wrong things [2.1]."""

    def __init__(self, what):
        self.what = what


class BadDate(DeedError):
    """A date is made of wrong things [2.6]."""

    def __init__(self, what):
        self.what = what


class BadTaker(DeedError):
    """A taker is made of wrong things [3.4]."""

    def __init__(self, what):
        self.what = what


class BadCondition(DeedError):
    """A condition is made of wrong things [3.5]."""

    def __init__(self, what):
        self.what = what


class BadGift(DeedError):
    """A gift is made of wrong things [3.6]."""

    def __init__(self, what):
        self.what = what


class BadDeed(DeedError):
    """The gifts of a deed are wrong [3.7]."""

    def __init__(self, index, what):
        self.index = index
        self.what = what


class NoGift(DeedError):
    """No gift has this name [3.7]."""

    def __init__(self, name):
        self.name = name


class BadYear(DeedError):
    """A thing that is passed as a year is none."""

    def __init__(self, year):
        self.year = year


class BadSystem(DeedError):
    """The count or the links of a system are wrong [5.2]."""

    def __init__(self, index, what):
        self.index = index
        self.what = what


class BadTimes(DeedError):
    """A thing that is passed as times is none [5.2]."""


class OtherCount(DeedError):
    """Two systems have unlike counts of instants [5.9]."""


class NoInstant(DeedError):
    """A system has no such instant [5.5]."""

    def __init__(self, instant):
        self.instant = instant


class NoTimes(DeedError):
    """No times keep a system, as this ring shows [5.5]."""

    def __init__(self, path):
        self.path = path


class BadFormula(DeedError):
    """A formula is wrong [5.13]."""

    def __init__(self, what):
        self.what = what


class BadText(DeedError):
    """A row of a text is wrong [11.1]."""

    def __init__(self, row, what):
        self.row = row
        self.what = what


class BadMeasuring(DeedError):
    """The measuring lives are wrong [6.13]."""

    def __init__(self, what):
        self.what = what


class BadYears(DeedError):
    """A thing that is passed as a number of years is none [6.13]."""

    def __init__(self, years):
        self.years = years


class NotAClass(DeedError):
    """The taker of this gift names no kin [7.4]."""

    def __init__(self, name):
        self.name = name


class BadCause(DeedError):
    """A thing that is passed as a cause is none [7.5]."""

    def __init__(self, cause):
        self.cause = cause


class BadCustom(DeedError):
    """A thing that is passed as a custom is none [7.7]."""

    def __init__(self, custom):
        self.custom = custom


class BadLater(DeedError):
    """A thing that is passed as a later record is none [7.8]."""

    def __init__(self, later):
        self.later = later


class NotMember(DeedError):
    """This life is no member of the kin [7.9]."""

    def __init__(self, name):
        self.name = name


class NoRoom(DeedError):
    """This gift has no room for one more condition [7.9]."""

    def __init__(self, name):
        self.name = name


class BadWatch(DeedError):
    """A watch is made of wrong things [8.7]."""

    def __init__(self, what):
        self.what = what


class NotTrue(DeedError):
    """A row cannot be forgotten or heard [8.8]."""

    def __init__(self, what, row):
        self.what = what
        self.row = row


class BadCase(DeedError):
    """A least case is asked for wrongly [9.7]."""

    def __init__(self, what):
        self.what = what


class BadChange(DeedError):
    """A change of a deed is wrong [10.2]."""

    def __init__(self, index, what):
        self.index = index
        self.what = what


class BadPool(DeedError):
    """A pool of changes is wrong [10.9]."""

    def __init__(self, what, index):
        self.what = what
        self.index = index
