"""Tables: a match of two sides, reading by reading."""

from kimariji.books import check_verse
from kimariji.deals import check_sweep
from kimariji.errors import (
    AllSaid, BadDeal, GiftDue, NoCard, NoSide, NotDue, NotRead, Over, ReadAlready, Reading, TooEarly,
)
from kimariji.hearing import faultless, is_fault, is_taken, witness
from kimariji.plans import earliest
from kimariji.rivals import deciding


class Table:
    """A match over a deal; side 0 sits at field 0, side 1 at field 1."""

    def __init__(self, deal):
        if not deal.cards(0) or not deal.cards(1):
            raise BadDeal("a match needs a card or more on each field")
        # What follows is never changed in place but always set anew, so that twins may share it.
        self.start = deal
        self.lying = deal
        self.left = tuple(range(deal.book().many()))
        self.current = None
        self.said = 0
        self.noted = ()
        self.closed = ()
        self.won = (0, 0)
        self.missed = (0, 0)
        self.owed = None

    def read(self, verse):
        """Begin to read a verse."""
        check_going_on(self)
        if self.owed is not None:
            raise GiftDue("a gift is due")
        check_still(self)
        check_verse(self.lying.book(), verse)
        if verse not in self.left:
            raise ReadAlready("the verse is not unread")
        self.current = verse

    def say(self):
        """Hear one syllable more."""
        if self.said == len(syllables_under(self)):
            raise AllSaid("all syllables were heard")
        self.said += 1

    def touch(self, side, sweep):
        """Note a sweep that a side makes."""
        check_reading(self)
        check_side(side)
        check_sweep(self.lying, sweep)
        self.noted = (*self.noted, (side, self.said, sweep))

    def close(self):
        """End the reading: the card is won, misses are counted, and gifts come due."""
        if self.said < len(syllables_under(self)):
            raise TooEarly("not all syllables were heard")
        verse = self.current
        missed = who_missed(self.lying, verse, self.noted)
        side = who_won(self.lying, verse, self.noted)
        gifts = gifts_earned(self.lying, verse, side, missed)
        if side is not None:
            self.lying = self.lying.without(verse)
            self.won = counted(self.won, [side == 0, side == 1])
        self.missed = counted(self.missed, missed)
        self.owed = gifts_due(self.lying, gifts)
        self.left = tuple([number for number in self.left if number != verse])
        self.closed = (*self.closed, (verse, side, missed[0], missed[1]))
        self.hush()

    def hush(self):
        """Read nothing any more, and forget the touches."""
        check_reading(self)
        self.current = None
        self.said = 0
        self.noted = ()

    def send(self, verse, row):
        """Send a card, as a gift that is due, to the end of a row of the other field."""
        check_gift(self)
        check_own_card(self.lying, self.owed[0], verse)
        self.lying = self.lying.sent(verse, row)
        self.owed = one_less(self.owed)

    def waive(self):
        """Do without a gift that is due."""
        check_gift(self)
        self.owed = one_less(self.owed)

    def move(self, side, verse, row, place):
        """Move a card of a side to a place of a row of its own field."""
        check_going_on(self)
        check_still(self)
        check_side(side)
        check_own_card(self.lying, side, verse)
        self.lying = self.lying.moved(verse, row, place)

    def strike(self, verse):
        """Strike the reading of a verse, which is unread again."""
        check_going_on(self)
        check_still(self)
        check_verse(self.lying.book(), verse)
        if verse in self.left:
            raise NotRead("the verse is unread")
        self.left = tuple(sorted([*self.left, verse]))
        self.closed = tuple([reading for reading in self.closed if reading[0] != verse])

    def deal(self):
        """The Deal as the cards lie now."""
        return self.lying

    def unread(self):
        """The unread verses, rising."""
        return list(self.left)

    def under(self):
        """The verse that is being read, or None."""
        return self.current

    def heard(self):
        """The syllables heard of the verse that is being read."""
        return [] if self.current is None else syllables_under(self)[:self.said]

    def touches(self):
        """Triples (side, size, sweep) of the reading, in their order."""
        return list(self.noted)

    def readings(self):
        """Tuples (verse, side, missed, missed) of the closed readings that are not struck."""
        return list(self.closed)

    def score(self):
        """How many cards each side has won."""
        return self.won

    def faults(self):
        """In how many closed readings each side missed."""
        return self.missed

    def due(self):
        """The side whose gifts are due, and how many; or None."""
        return self.owed

    def winner(self):
        """The side that has won the match, or None."""
        if self.owed is not None:
            return None
        done = [side for side in range(2) if not self.lying.cards(side)]
        return done[0] if done else None

    def free(self):
        """The fields on which sweeps are faultless now."""
        return faultless(self.lying, self.unread(), self.heard())

    def witness(self, sweep):
        """A verse that may come now and for which the sweep is a fault, or None."""
        return witness(self.lying, self.unread(), self.heard(), sweep)

    def deciding(self, verse):
        """The deciding beginning of a verse, by the verses unread now."""
        return deciding(self.lying.book(), self.unread(), verse)

    def plan(self):
        """The earliest plan now."""
        return earliest(self.lying, self.unread())

    def twin(self):
        """Another Table that stands alike."""
        # Made of the first deal, since the cards may lie by now as no match begins.
        other = Table(self.start)
        other.lying = self.lying
        other.left = self.left
        other.current = self.current
        other.said = self.said
        other.noted = self.noted
        other.closed = self.closed
        other.won = self.won
        other.missed = self.missed
        other.owed = self.owed
        return other


def check_going_on(table):
    """Refuse a deed where the match is over."""
    if table.winner() is not None:
        raise Over("the match is over")


def check_still(table):
    """Refuse a deed while a verse is being read."""
    if table.current is not None:
        raise Reading("a verse is being read")


def check_reading(table):
    """Refuse a deed while no verse is being read."""
    if table.current is None:
        raise NotDue("no verse is being read")


def check_gift(table):
    """Refuse a deed while no gift is due."""
    if table.owed is None:
        raise NotDue("no gift is due")


def check_side(side):
    """Refuse a number that is no side's."""
    if not 0 <= side <= 1:
        raise NoSide("there is no such side")


def check_own_card(deal, side, verse):
    """Refuse a verse whose card does not lie on the side's field."""
    spot = deal.where(verse)
    if spot is None or spot[0] != side:
        raise NoCard("the card does not lie on the side's field")


def syllables_under(table):
    """All syllables of the verse that is being read."""
    check_reading(table)
    return table.lying.book().verse(table.current)


def who_missed(deal, verse, touches):
    """Whether side 0, and whether side 1 made a touch that is a fault for the verse."""
    wrong = [side for side, size, sweep in touches if is_fault(deal, verse, sweep)]
    return [side in wrong for side in range(2)]


def who_won(deal, verse, touches):
    """The side that wins the verse's card, or None where it lies nowhere."""
    spot = deal.where(verse)
    if spot is None:
        return None
    takers = [side for side, size, sweep in touches if is_taken(deal, verse, sweep)]
    return takers[0] if takers else spot[0]


def gifts_earned(deal, verse, side, missed):
    """How many gifts each side earns, the cards lying as ahead of the close; the side won the card, or None."""
    won_abroad = side is not None and deal.where(verse)[0] != side
    return counted((int(missed[1]), int(missed[0])), [won_abroad and side == 0, won_abroad and side == 1])


def gifts_due(deal, gifts):
    """The side whose gifts are due and how many, or None; the cards lying as behind the close."""
    side = 0 if gifts[0] > gifts[1] else 1
    count = min(abs(gifts[0] - gifts[1]), len(deal.cards(side)))
    return (side, count) if count > 0 else None


def counted(counts, more):
    """Both counts, each with one more where this is so."""
    return (counts[0] + int(more[0]), counts[1] + int(more[1]))


def one_less(owed):
    """What is due with one gift less."""
    side, count = owed
    return (side, count - 1) if count > 1 else None
