"""Deals: the cards of a book's verses, as they lie on two fields, and the sweeps over them."""

from kimariji.books import check_verse, rising
from kimariji.errors import BadDeal, Full, NoCard, NoField, NoPlace

MOST_ROWS = 3
MOST_CARDS = 12


class Deal:
    """A book and two fields of rows of cards; a deal never changes."""

    def __init__(self, book, zero, one):
        check_fields(book, [zero, one])
        self.source = book
        self.fields = [copied(zero), copied(one)]

    def book(self):
        """The Book whose cards lie here."""
        return self.source

    def rows(self, field):
        """The rows of a field, each a list of verses."""
        check_field(field)
        return copied(self.fields[field])

    def cards(self, field):
        """The verses of a field's rows, one row behind the other."""
        return [card for cards in self.rows(field) for card in cards]

    def where(self, verse):
        """The spot (field, row, place) of a verse's card, or None where it lies nowhere."""
        check_verse(self.source, verse)
        for field, rows in enumerate(self.fields):
            for row, cards in enumerate(rows):
                if verse in cards:
                    return (field, row, cards.index(verse))
        return None

    def swept(self, sweep):
        """The verses that a sweep touches, by their places."""
        check_sweep(self, sweep)
        field, row, first, last = sweep
        return self.fields[field][row][first:last + 1]

    def cover(self, verses):
        """For each row in which some of the verses lie, the shortest sweep that touches all of these."""
        wanted = rising(self.source, verses)
        sweeps = []
        for field, rows in enumerate(self.fields):
            for row, cards in enumerate(rows):
                places = [place for place, card in enumerate(cards) if card in wanted]
                if places:
                    sweeps.append((field, row, places[0], places[-1]))
        return sweeps

    def without(self, verse):
        """The deal with this card less."""
        card_field(self, verse)
        fields = fields_without(self, verse)
        return Deal(self.source, fields[0], fields[1])

    def sent(self, verse, row):
        """The deal with this card at the end of a row of the other field."""
        other = 1 - card_field(self, verse)
        check_row(self, other, row)
        fields = fields_without(self, verse)
        check_room(fields[other][row])
        fields[other][row].append(verse)
        return Deal(self.source, fields[0], fields[1])

    def moved(self, verse, row, place):
        """The deal with this card at a place of a row of its own field."""
        field = card_field(self, verse)
        check_row(self, field, row)
        fields = fields_without(self, verse)
        cards = fields[field][row]
        check_room(cards)
        if not 0 <= place <= len(cards):
            raise NoPlace("the row has no such place")
        cards.insert(place, verse)
        return Deal(self.source, fields[0], fields[1])


def copied(rows):
    """New lists of the same cards."""
    return [list(cards) for cards in rows]


def check_fields(book, fields):
    """Refuse fields that make no deal of the book."""
    for rows in fields:
        if not 1 <= len(rows) <= MOST_ROWS:
            raise BadDeal("a field has 1 to 3 rows")
        if any([len(cards) > MOST_CARDS for cards in rows]):
            raise BadDeal("a row has 0 to 12 cards")
    lying = [card for rows in fields for cards in rows for card in cards]
    if not all([0 <= card < book.many() for card in lying]):
        raise BadDeal("a card is the number of a verse")
    if len(set(lying)) < len(lying):
        raise BadDeal("no verse lies twice")


def check_field(field):
    """Refuse a number that is no field's."""
    if not 0 <= field <= 1:
        raise NoField("there is no such field")


def check_row(deal, field, row):
    """Refuse a field that is not there, or a row that it does not have."""
    if not 0 <= row < len(deal.rows(field)):
        raise NoField("the field has no such row")


def check_sweep(deal, sweep):
    """Refuse a sweep that is not there."""
    field, row, first, last = sweep
    check_row(deal, field, row)
    if not 0 <= first <= last < len(deal.rows(field)[row]):
        raise NoCard("the sweep has no such cards to touch")


def check_room(cards):
    """Refuse a row that has no room for one card more."""
    if len(cards) >= MOST_CARDS:
        raise Full("a row has at most 12 cards")


def card_field(deal, verse):
    """The field on which a verse's card lies; refused where it lies nowhere."""
    spot = deal.where(verse)
    if spot is None:
        raise NoCard("the verse's card lies nowhere")
    return spot[0]


def fields_without(deal, verse):
    """New lists of both fields' rows, one verse's card left out."""
    return [[[card for card in cards if card != verse] for cards in deal.rows(field)] for field in range(2)]
