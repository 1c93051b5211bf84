"""Halls: books and tables by names, and deeds that can be taken back and done again."""

from kimariji.books import Book
from kimariji.deals import Deal
from kimariji.errors import BadName, Full, NoBook, NoTable, NothingLeft, Taken
from kimariji.table import Table

MOST_LETTERS = 8
MOST_NAMES = 8


class Hall:
    """Books and tables by names, and the deeds by which they came to stand so."""

    def __init__(self):
        # The deeds that are done, and behind them those that were taken back.
        self.log = []
        self.done = 0
        # A stand is a pair of dicts, books and tables by names; there is one ahead of each deed of the log
        # and one behind the last. What stands in them is never changed, so that twins may share them.
        self.stands = [({}, {})]

    def shelve(self, name, verses):
        """Put a new book on the shelf."""
        shelf, tables = standing(self)
        check_new(shelf, name)
        book = Book(verses)
        note(self, ("shelve", name, new_lists(verses)), {**shelf, name: book}, tables)

    def lay(self, name, book, zero, one):
        """Lay the cards of a book for a new table."""
        shelf, tables = standing(self)
        check_new(tables, name)
        table = Table(Deal(book_named(shelf, book), zero, one))
        note(self, ("lay", name, book, new_lists(zero), new_lists(one)), shelf, {**tables, name: table})

    def read(self, name, verse):
        """Begin to read a verse at a table."""
        play(self, ("read", name, verse), lambda table: table.read(verse))

    def say(self, name):
        """Hear one syllable more at a table."""
        play(self, ("say", name), lambda table: table.say())

    def touch(self, name, side, sweep):
        """Note a sweep that a side makes at a table."""
        play(self, ("touch", name, side, sweep), lambda table: table.touch(side, sweep))

    def close(self, name):
        """End the reading at a table."""
        play(self, ("close", name), lambda table: table.close())

    def hush(self, name):
        """Read nothing any more at a table."""
        play(self, ("hush", name), lambda table: table.hush())

    def send(self, name, verse, row):
        """Send a card, as a gift that is due at a table."""
        play(self, ("send", name, verse, row), lambda table: table.send(verse, row))

    def waive(self, name):
        """Do without a gift that is due at a table."""
        play(self, ("waive", name), lambda table: table.waive())

    def move(self, name, side, verse, row, place):
        """Move a card of a side at a table."""
        play(self, ("move", name, side, verse, row, place), lambda table: table.move(side, verse, row, place))

    def strike(self, name, verse):
        """Strike the reading of a verse at a table."""
        play(self, ("strike", name, verse), lambda table: table.strike(verse))

    def fold(self, name):
        """Take a table away."""
        shelf, tables = standing(self)
        table_named(tables, name)
        note(self, ("fold", name), shelf, {other: tables[other] for other in tables if other != name})

    def back(self):
        """Take the last deed back."""
        if self.done == 0:
            raise NothingLeft("there is no deed to take back")
        self.done -= 1

    def again(self):
        """Do again what was taken back last."""
        if self.done == len(self.log):
            raise NothingLeft("there is no deed to do again")
        self.done += 1

    def deeds(self):
        """The deeds that are done and not taken back, the eldest first."""
        return [new_deed(deed) for deed in self.log[:self.done]]

    def books(self):
        """The names of the books, in the order in which they came."""
        return list(standing(self)[0])

    def tables(self):
        """The names of the tables, in the order in which they came."""
        return list(standing(self)[1])

    def book(self, name):
        """The Book of this name."""
        return book_named(standing(self)[0], name)

    def table(self, name):
        """A Table that stands as the one of this name does."""
        return table_named(standing(self)[1], name).twin()

    def twin(self):
        """Another Hall that stands alike, what can be taken back and done again too."""
        other = Hall()
        other.log = list(self.log)
        other.done = self.done
        other.stands = list(self.stands)
        return other


def standing(hall):
    """The books and the tables by names, as they stand now."""
    return hall.stands[hall.done]


def note(hall, deed, shelf, tables):
    """Keep a deed and how all stands behind it; what was taken back is gone."""
    del hall.log[hall.done:]
    del hall.stands[hall.done + 1:]
    hall.log.append(deed)
    hall.stands.append((shelf, tables))
    hall.done += 1


def play(hall, deed, action):
    """Do a deed of a match at the table whose name it tells."""
    shelf, tables = standing(hall)
    name = deed[1]
    # A twin plays, so that all ahead of the deed stays as it was.
    table = table_named(tables, name).twin()
    action(table)
    note(hall, deed, shelf, {**tables, name: table})


def is_name(text):
    """Whether a text is a name."""
    return 1 <= len(text) <= MOST_LETTERS and all(["a" <= letter <= "z" for letter in text])


def check_new(named, name):
    """Refuse a name for one more of these, where it is none, is taken, or there are as many as may be."""
    if not is_name(name):
        raise BadName("a name is 1 to 8 small letters")
    if name in named:
        raise Taken("the name is taken")
    if len(named) >= MOST_NAMES:
        raise Full("there are at most 8 of a kind")


def book_named(shelf, name):
    """The book of this name."""
    if name not in shelf:
        raise NoBook("no book has this name")
    return shelf[name]


def table_named(tables, name):
    """The table of this name."""
    if name not in tables:
        raise NoTable("no table has this name")
    return tables[name]


def new_lists(rows):
    """New lists of the same things."""
    return [list(row) for row in rows]


def new_deed(deed):
    """The same deed, the lists in it new ones."""
    return tuple([new_lists(thing) if isinstance(thing, list) else thing for thing in deed])
