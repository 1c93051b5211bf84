"""Faults and takings, and from where on sweeps are faultless and sure."""

from kimariji.books import check_verse, meeting
from kimariji.deals import card_field, check_sweep
from kimariji.rivals import rivals, shared


def strays(deal, verses, field):
    """Those of the verses whose cards do not lie on the field, in their order."""
    lying = deal.cards(field)
    return [verse for verse in verses if verse not in lying]


def is_fault(deal, verse, sweep):
    """Whether the sweep is a fault when the verse is read."""
    spot = deal.where(verse)
    check_sweep(deal, sweep)
    return spot is None or spot[0] != sweep[0]


def is_taken(deal, verse, sweep):
    """Whether the sweep takes the verse's card when the verse is read."""
    check_verse(deal.book(), verse)
    return verse in deal.swept(sweep)


def faultless(deal, unread, heard):
    """The fields on which sweeps are faultless behind what was heard."""
    coming = meeting(deal.book(), unread, heard)
    return [field for field in range(2) if not strays(deal, coming, field)]


def witness(deal, unread, heard, sweep):
    """A verse that may come and for which the sweep is a fault, or None."""
    coming = meeting(deal.book(), unread, heard)
    check_sweep(deal, sweep)
    wronged = strays(deal, coming, sweep[0])
    return wronged[0] if wronged else None


def sure(deal, unread, heard):
    """The sweeps that take whichever verse comes without a fault, or None where no sweeps do."""
    if not faultless(deal, unread, heard):
        return None
    return deal.cover(meeting(deal.book(), unread, heard))


def moment(deal, unread, verse):
    """The least size by which all rivals of the verse lie on its own field."""
    book = deal.book()
    # Asked ahead of the field, since NoVerse goes ahead of NoCard.
    others = rivals(book, unread, verse, 0)
    field = card_field(deal, verse)
    # A rival elsewhere is one up to the size that it shares, and no more behind that.
    return max([shared(book, verse, other) + 1 for other in strays(deal, others, field)], default=0)
