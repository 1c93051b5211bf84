"""A match kept by the words of points 15 to 17 alone, for comparing tables with, and deeds for trying both."""

from kimariji import errors
from kimariji.books import Book
from kimariji.deals import Deal
from kimariji.hearing import faultless
from kimariji.plans import earliest
from kimariji.rivals import deciding

STRAY = (-10 ** 30, -41, -2, -1, 12, 13, 40, 41, 10 ** 5000)


class Match:
    def __init__(self, verses, zero, one):
        self.verses = verses
        self.fields = [[list(row) for row in zero], [list(row) for row in one]]
        self.unread = list(range(len(verses)))
        self.under = None
        self.heard = 0
        self.noted = []
        self.closed = []
        self.won = [0, 0]
        self.missed = [0, 0]
        self.gifts = [0, 0]

    def field_of(self, verse):
        found = [field for field in (0, 1) for row in self.fields[field] if verse in row]
        return found[0] if found else None

    def cards(self, field):
        return sum(self.fields[field], [])

    def is_over(self):
        return not any(self.gifts) and not (self.cards(0) and self.cards(1))

    def winner(self):
        return [field for field in (0, 1) if not self.cards(field)][0] if self.is_over() else None

    def due(self):
        sides = [side for side in (0, 1) if self.gifts[side]]
        return (sides[0], self.gifts[sides[0]]) if sides else None

    def has_row(self, field, row):
        return field in (0, 1) and 0 <= row < len(self.fields[field])

    def row(self, field, row, verse=None):
        """The cards of a row, one verse's left out; none where there is no such row."""
        return [card for card in self.fields[field][row] if card != verse] if self.has_row(field, row) else []

    def refusals(self, word, *things):
        """All that is due against a deed, in the order that point 16 tells."""
        still = [("NotDue", self.under is None)]
        busy = [("Over", self.is_over()), ("Reading", self.under is not None)]
        return getattr(self, "against_" + word)(still, busy, *things)

    def strange(self, verse):
        return ("NoVerse", not 0 <= verse < len(self.verses))

    def against_read(self, still, busy, verse):
        return [busy[0], ("GiftDue", any(self.gifts)), busy[1], self.strange(verse),
                ("ReadAlready", verse not in self.unread)]

    def against_say(self, still, busy):
        return still + [("AllSaid", self.under is not None and self.heard == len(self.verses[self.under]))]

    def against_touch(self, still, busy, side, sweep):
        field, row, first, last = sweep
        many = len(self.row(field, row)) if self.has_row(field, row) else 0
        return still + [("NoSide", side not in (0, 1)), ("NoField", not self.has_row(field, row)),
                        ("NoCard", not 0 <= first <= last < many)]

    def against_close(self, still, busy):
        return still + [("TooEarly", self.under is not None and self.heard < len(self.verses[self.under]))]

    def against_hush(self, still, busy):
        return still

    def against_send(self, still, busy, verse, row):
        side = self.due()[0] if self.due() else 0
        return [("NotDue", self.due() is None), self.strange(verse), ("NoCard", self.field_of(verse) != side),
                ("NoField", not self.has_row(1 - side, row)), ("Full", len(self.row(1 - side, row)) >= 12)]

    def against_waive(self, still, busy):
        return [("NotDue", self.due() is None)]

    def against_move(self, still, busy, side, verse, row, place):
        cards = self.row(side, row, verse)
        return busy + [("NoSide", side not in (0, 1)), self.strange(verse),
                       ("NoCard", side not in (0, 1) or self.field_of(verse) != side),
                       ("NoField", not self.has_row(side, row)), ("Full", len(cards) >= 12),
                       ("NoPlace", not 0 <= place <= len(cards))]

    def against_strike(self, still, busy, verse):
        return busy + [self.strange(verse), ("NotRead", verse in self.unread)]

    def first_refusal(self, word, *things):
        due = [name for name, holds in self.refusals(word, *things) if holds]
        return getattr(errors, due[0]) if due else None

    def do(self, word, *things):
        getattr(self, "do_" + word)(*things)

    def do_read(self, verse):
        self.under = verse

    def do_say(self):
        self.heard += 1

    def do_touch(self, side, sweep):
        self.noted.append((side, self.heard, sweep))

    def do_hush(self):
        self.under, self.heard, self.noted = None, 0, []

    def do_close(self):
        verse, field = self.under, self.field_of(self.under)
        missed = [any(side == s and sweep[0] != field for s, size, sweep in self.noted) for side in (0, 1)]
        takers = [s for s, size, (f, r, a, b) in self.noted if verse in self.fields[f][r][a:b + 1]]
        side = None if field is None else (takers + [field])[0]
        earned = [0, 0]
        for one in (0, 1):
            self.missed[one] += missed[one]
            earned[one] += missed[1 - one]
            earned[one] += side == one and field == 1 - one
            self.won[one] += side == one
        self.fields = [[[card for card in row if card != verse] for row in rows] for rows in self.fields]
        for one in (0, 1):
            self.gifts[one] = min(max(earned[one] - earned[1 - one], 0), len(self.cards(one)))
        self.unread.remove(verse)
        self.closed.append((verse, side, missed[0], missed[1]))
        self.do_hush()

    def do_send(self, verse, row):
        side = self.due()[0]
        for cards in self.fields[side]:
            if verse in cards:
                cards.remove(verse)
        self.fields[1 - side][row].append(verse)
        self.gifts[side] -= 1

    def do_waive(self):
        self.gifts[self.due()[0]] -= 1

    def do_move(self, side, verse, row, place):
        for cards in self.fields[side]:
            if verse in cards:
                cards.remove(verse)
        self.fields[side][row].insert(place, verse)

    def do_strike(self, verse):
        self.unread = sorted(self.unread + [verse])
        self.closed = [reading for reading in self.closed if reading[0] != verse]

    def sight(self):
        """What a table must tell of its cards and its match that stands so."""
        heard = [] if self.under is None else self.verses[self.under][:self.heard]
        return {
            "deal": (self.fields[0], self.fields[1]), "unread": self.unread, "under": self.under, "heard": heard,
            "touches": self.noted, "readings": self.closed, "score": tuple(self.won), "faults": tuple(self.missed),
            "due": self.due(), "winner": self.winner(),
        }

    def told(self):
        """All that a table must tell that stands so."""
        seen = self.sight()
        book = Book(self.verses)
        deal = Deal(book, *self.fields)
        return {
            **seen, "free": faultless(deal, self.unread, seen["heard"]), "plan": earliest(deal, self.unread),
            "deciding": [deciding(book, self.unread, verse) for verse in range(len(self.verses))],
        }


def sight(table):
    """What a table tells of its cards and its match."""
    deal = table.deal()
    return {
        "deal": (deal.rows(0), deal.rows(1)), "unread": table.unread(), "under": table.under(),
        "heard": table.heard(), "touches": table.touches(), "readings": table.readings(), "score": table.score(),
        "faults": table.faults(), "due": table.due(), "winner": table.winner(),
    }


def told(table):
    """All that a table tells."""
    many = table.deal().book().many()
    asked = {"free": table.free(), "plan": table.plan(), "deciding": [table.deciding(n) for n in range(many)]}
    return {**sight(table), **asked}


def some_sweep(dice, match):
    """A sweep that is there or not."""
    field, row = dice.choice((0, 1)), dice.choice((0, 0, 1, 2))
    many = max(len(match.row(field, row)), 1)
    first = dice.randrange(many)
    sweep = [field, row, first, dice.randrange(first, many)]
    if dice.random() < 0.2:
        sweep[dice.randrange(4)] = dice.choice(STRAY)
    return tuple(sweep)


def some_deed(dice, match):
    """A deed that is refused or not; one that brings the match on is likelier."""
    word = dice.choice("read say say say say touch touch touch close close hush send send waive move strike".split())

    def number(limit):
        return dice.choice(STRAY) if dice.random() < 0.1 else dice.randrange(limit)

    verse = number(len(match.verses))
    if match.due() and dice.random() < 0.6:
        verse = dice.choice(match.cards(match.due()[0]))
    things = {
        "read": (verse,), "touch": (number(2), some_sweep(dice, match)), "send": (verse, number(3)),
        "move": (number(2), verse, number(3), number(5)), "strike": (verse,),
    }
    return (word, *things.get(word, ()))
