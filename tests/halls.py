"""A hall kept by the words of points 18 and 19 alone, for comparing halls with, and deeds for trying both."""

from copy import deepcopy

import samples
from match import Match, sight, some_deed

from kimariji.books import Book
from kimariji.deals import Deal
from kimariji.errors import BadDeal, BadName, Full, NoBook, NoTable, SnatchError, Taken
from kimariji.hall import Hall

TABLE_WORDS = "read say touch close hush send waive move strike".split()
TINY = [["a", "b"], ["a", "c"], ["d"]]
NAMES = ["a", "b", "c", "zz", "abcdefgh"]
BAD_NAMES = ["", "abcdefghi", "A", "aB", "a1", "a-b", "a.b", "-", "a b", " a", "a ", "`", "{", "\u00e9", "a\n"]
BOOKS = [samples.ROWS, TINY, [], [["a"], ["B"]], [["a"], ["a", "b"]]]
FIELDS = [
    (samples.ZERO, samples.ONE), ([[0]], [[1], [2]]), ([[2], []], [[1, 0]]), ([[0]], [[]]), ([[9]], [[1]]),
    ([[0], [], [], []], [[1]]), ([[0, 0]], [[1]]),
]


def is_name(text):
    return 1 <= len(text) <= 8 and all(letter in "abcdefghijklmnopqrstuvwxyz" for letter in text)


class Place:
    """Books and tables by names, and lists of all that stood ahead and of all that was taken back."""

    def __init__(self):
        self.now = ({}, {}, [])
        self.past = []
        self.future = []

    def refusal(self, word, name, *things):
        """The error that a deed must raise, or None."""
        books, tables, deeds = self.now
        if word in TABLE_WORDS + ["fold"]:
            if name not in tables:
                return NoTable
            return None if word == "fold" else tables[name].first_refusal(word, *things)
        named = books if word == "shelve" else tables
        for error, holds in ((BadName, not is_name(name)), (Taken, name in named), (Full, len(named) == 8)):
            if holds:
                return error
        return refused_by(Book, *things) if word == "shelve" else self.refused_laying(books, *things)

    def refused_laying(self, books, book, zero, one):
        if book not in books:
            return NoBook
        laid = refused_by(Deal, Book(books[book]), zero, one)
        return laid or (None if sum(zero, []) and sum(one, []) else BadDeal)

    def do(self, word, name, *things):
        self.past.append(deepcopy(self.now))
        self.future = []
        books, tables, deeds = self.now
        if word == "shelve":
            books[name] = things[0]
        elif word == "lay":
            tables[name] = Match(books[things[0]], things[1], things[2])
        elif word == "fold":
            del tables[name]
        else:
            tables[name].do(word, *things)
        deeds.append((word, name, *things))

    def back(self):
        self.future.append(self.now)
        self.now = self.past.pop()

    def again(self):
        self.past.append(self.now)
        self.now = self.future.pop()

    def told(self):
        """What a hall must tell that stands so."""
        books, tables, deeds = self.now
        return (list(books.items()), [(name, match.sight()) for name, match in tables.items()], deeds)


def refused_by(made, *things):
    try:
        made(*things)
    except SnatchError as error:
        return error.__class__
    return None


def told(hall):
    """All that a hall tells."""
    books = [(name, hall.book(name).verses()) for name in hall.books()]
    return (books, [(name, sight(hall.table(name))) for name in hall.tables()], hall.deeds())


def tried(hall, word, *things):
    """The error class with which a deed is refused, or None."""
    try:
        getattr(hall, word)(*things)
    except SnatchError as error:
        return error.__class__
    return None


def some_hall_deed(dice, place):
    """A deed that is refused or not; most of them are of a table."""
    books, tables, deeds = place.now
    name = dice.choice(NAMES + BAD_NAMES[:4]) if dice.random() < 0.1 else dice.choice(list(tables) or NAMES)
    chance = dice.random()
    if chance < 0.04 or not books:
        return ("shelve", dice.choice(NAMES + BAD_NAMES), deepcopy(dice.choice(BOOKS)))
    if chance < 0.1 or not tables:
        book = dice.choice(list(books)) if dice.random() < 0.8 else dice.choice(NAMES + BAD_NAMES)
        return ("lay", dice.choice(NAMES + BAD_NAMES[:2]), book, *deepcopy(dice.choice(FIELDS)))
    if chance < 0.11:
        return ("fold", name)
    match = tables[name] if name in tables else Match(TINY, [[0]], [[1]])
    word, *things = some_deed(dice, match)
    return (word, name, *things)


def walked(dice, turns):
    """A hall and a place behind the same deeds; those that are refused are left out."""
    hall, place = Hall(), Place()
    for turn in range(turns):
        word, name, *things = some_hall_deed(dice, place)
        if place.refusal(word, name, *things) is None:
            getattr(hall, word)(name, *deepcopy(things))
            place.do(word, name, *deepcopy(things))
    return (hall, place)
