"""Chances: how soon verses are decided and safe, over all orders in which they may be read."""

from kimariji.books import check_verse, rising
from kimariji.deals import card_field
from kimariji.errors import ReadAlready
from kimariji.hearing import strays
from kimariji.parts import less, part, plus
from kimariji.rivals import rivals, shared

NOUGHT = (0, 1)


def check_unread(book, unread, verse):
    """Refuse a verse that is not unread."""
    check_verse(book, verse)
    if verse not in rising(book, unread):
        raise ReadAlready("the verse is not unread")


def chance_behind(others):
    """The chance that a verse comes behind all of these others."""
    # Of it and the others, each one is as likely to come last.
    return part(1, len(others) + 1)


def mean_size(sizes):
    """The mean of the least size that a verse shares with none that comes behind it.

    The sizes are the greatest ones that it shares with each of the others.
    """
    total = NOUGHT
    # A mean is the sum, over all sizes, of the chances of being above them.
    for size in range(max(sizes, default=-1) + 1):
        many = len([greatest for greatest in sizes if greatest >= size])
        total = plus(total, part(many, many + 1))
    return total


def sizes_shared(book, verse, others):
    """The greatest size that the verse shares with each of the others."""
    return [shared(book, verse, other) for other in others]


def decided_by(book, unread, verse, size):
    """The chance that the deciding beginning, when the verse comes, has at most so many syllables."""
    check_unread(book, unread, verse)
    return chance_behind(rivals(book, unread, verse, size))


def mean_decided(book, unread, verse):
    """The mean of the deciding beginning's count of syllables when the verse comes."""
    check_unread(book, unread, verse)
    return mean_size(sizes_shared(book, verse, rivals(book, unread, verse, 0)))


def strange_rivals(deal, unread, verse, size):
    """The rivals of an unread verse by the size that do not lie on its field."""
    check_unread(deal.book(), unread, verse)
    field = card_field(deal, verse)
    return strays(deal, rivals(deal.book(), unread, verse, size), field)


def safe_by(deal, unread, verse, size):
    """The chance that the moment of the verse, when it comes, is at most this size."""
    return chance_behind(strange_rivals(deal, unread, verse, size))


def mean_safe(deal, unread, verse):
    """The mean of the moment of the verse when it comes."""
    return mean_size(sizes_shared(deal.book(), verse, strange_rivals(deal, unread, verse, 0)))


def bonds(book, unread):
    """For each unread verse, pairs (other, size) of the other ones and the greatest size shared with each."""
    verses = rising(book, unread)
    return {one: [(other, shared(book, one, other)) for other in verses if other != one] for one in verses}


def homes(deal):
    """The field of each verse that lies on one."""
    return {card: field for field in range(2) for card in deal.cards(field)}


def total_wait(sharing, places):
    """The sum of the mean moments, by what the verses share and by the fields on which they lie."""
    total = NOUGHT
    for verse, others in sharing.items():
        if verse in places:
            sizes = [size for other, size in others if places.get(other) != places[verse]]
            total = plus(total, mean_size(sizes))
    return total


def waiting(deal, unread):
    """The sum of the mean moments of all unread verses that lie on a field."""
    return total_wait(bonds(deal.book(), unread), homes(deal))


def best_gift(deal, unread, field):
    """The card of a field with which the waiting is least if it lay on the other one, and that waiting; or None."""
    # What is shared is asked ahead of the cards, since NoVerse goes ahead of NoField.
    sharing = bonds(deal.book(), unread)
    cards = sorted(deal.cards(field))
    places = homes(deal)
    best = None
    for verse in cards:
        # No deal is made for this, as the other field needs no room for the card.
        wait = total_wait(sharing, {**places, verse: 1 - field})
        if best is None or less(wait, best[1]):
            best = (verse, wait)
    return best
