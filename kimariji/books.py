"""Books of verses, and what may come behind what was heard."""

from kimariji.errors import Alike, BadBook, BadVerse, NoVerse

MOST_VERSES = 40
MOST_SYLLABLES = 8
MOST_LETTERS = 3


class Book:
    """Verses, rows of syllables, numbered from 0 on; a book never changes."""

    def __init__(self, verses):
        check_rows(verses)
        self.lines = [list(verse) for verse in verses]

    def many(self):
        """The count of verses."""
        return len(self.lines)

    def verse(self, number):
        """The syllables of one verse."""
        check_verse(self, number)
        return list(self.lines[number])

    def verses(self):
        """The syllables of each verse, in their order."""
        return [list(line) for line in self.lines]


def check_rows(rows):
    """Refuse rows that make no book."""
    if not 1 <= len(rows) <= MOST_VERSES:
        raise BadBook("a book has 1 to 40 verses")
    for row, syllables in enumerate(rows):
        if not is_verse(syllables):
            raise BadVerse(row)
    for other in range(len(rows)):
        for one in range(other):
            if begins(rows[one], rows[other]) or begins(rows[other], rows[one]):
                raise Alike(one, other)


def is_verse(syllables):
    """Whether a list of texts is a verse."""
    return 1 <= len(syllables) <= MOST_SYLLABLES and all([is_syllable(text) for text in syllables])


def is_syllable(text):
    """Whether a text is a syllable."""
    return 1 <= len(text) <= MOST_LETTERS and all(["a" <= letter <= "z" for letter in text])


def begins(one, other):
    """Whether the first list is the first part of the second, as long as it is."""
    return other[:len(one)] == one


def check_verse(book, number):
    """Refuse a number that is no verse's."""
    # The words leave the number out: Python does not write numbers of thousands of figures.
    if not 0 <= number < book.many():
        raise NoVerse("the book has no verse of this number")


def rising(book, numbers):
    """The verses of a list, each once, rising."""
    for number in numbers:
        check_verse(book, number)
    return sorted(set(numbers))


def meeting(book, unread, heard):
    """The verses that may come behind what was heard, rising."""
    return [number for number in rising(book, unread) if begins(heard, book.verse(number))]


def goings(book, unread, heard):
    """Pairs (syllable, count) of what may be heard next, by the least verse that has it."""
    size = len(heard)
    counts = {}
    for number in meeting(book, unread, heard):
        verse = book.verse(number)
        if len(verse) > size:
            counts[verse[size]] = counts.get(verse[size], 0) + 1
    return list(counts.items())
