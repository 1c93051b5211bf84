"""The refusals of the program, one class for each kind."""


class SnatchError(ValueError):
    """Any refusal."""


class NoPart(SnatchError):
    """A bottom of 0."""


class BadBook(SnatchError):
    """There are not 1 to 40 rows."""


class BadVerse(SnatchError):
    """The row of this number is no verse, and none ahead of it is at fault."""

    def __init__(self, row):
        self.row = row


class Alike(SnatchError):
    """Of two verses, one ahead of the other, one begins the other."""

    def __init__(self, one, other):
        self.one = one
        self.other = other


class NoVerse(SnatchError):
    """A number that is no verse's number of the book."""


class BadDeal(SnatchError):
    """The cards cannot lie so."""


class NoField(SnatchError):
    """There is no such field, or no such row of it."""


class NoCard(SnatchError):
    """The card does not lie there."""


class NoPlace(SnatchError):
    """The row has no such place."""


class Full(SnatchError):
    """There is no room for one more."""


class NoSide(SnatchError):
    """A side that is neither 0 nor 1."""


class ReadAlready(SnatchError):
    """The verse is not unread."""


class NotRead(SnatchError):
    """The verse is unread."""


class NotDue(SnatchError):
    """The deed is not due now."""


class Reading(SnatchError):
    """A verse is being read."""


class AllSaid(SnatchError):
    """All syllables of the verse were heard."""


class TooEarly(SnatchError):
    """Not all syllables of the verse were heard."""


class GiftDue(SnatchError):
    """A gift is due."""


class Over(SnatchError):
    """The match is over."""


class BadPlan(SnatchError):
    """The pair at this place of a plan is not good, and none ahead of it is at fault."""

    def __init__(self, place):
        self.place = place


class BadName(SnatchError):
    """A text that is no name."""


class Taken(SnatchError):
    """Another one has this name."""


class NoBook(SnatchError):
    """No book has this name."""


class NoTable(SnatchError):
    """No table has this name."""


class NothingLeft(SnatchError):
    """There is nothing to take back, or nothing to do again."""


class BadText(SnatchError):
    """The row of this number is the first with which the text is wrong."""

    def __init__(self, row):
        self.row = row
