"""Minutes: books and halls as texts, written and read."""

from kimariji.books import Book
from kimariji.errors import BadText, SnatchError
from kimariji.hall import Hall

HEAD = "hall"
MOST_FIGURES = 2

# What stands behind the word of a deed; a sweep is four numbers.
FORMS = {
    "shelve": ("name", "verses"),
    "lay": ("name", "name", "field", "field"),
    "read": ("name", "number"),
    "say": ("name",),
    "touch": ("name", "number", "number", "number", "number", "number"),
    "close": ("name",),
    "hush": ("name",),
    "send": ("name", "number", "number"),
    "waive": ("name",),
    "move": ("name", "number", "number", "number", "number"),
    "strike": ("name", "number"),
    "fold": ("name",),
}


def book_text(book):
    """The rows of a book, one for each verse."""
    return "\n".join([" ".join(verse) for verse in book.verses()])


def read_book(text):
    """The Book that a text tells."""
    verses = []
    book = None
    for at, row in enumerate(text.split("\n")):
        verses.append(row.split(" "))
        # Tried with each row, since the first row goes with which it is no book, whatever follows.
        try:
            book = Book(verses)
        except SnatchError:
            raise BadText(at) from None
    return book


def hall_text(hall):
    """The rows of a hall: its head, and one for each deed that is done."""
    return "\n".join([HEAD] + [deed_text(deed) for deed in hall.deeds()])


def deed_text(deed):
    """The row of a deed."""
    word, name, *things = deed
    if word == "shelve":
        texts = [verses_text(things[0])]
    elif word == "lay":
        texts = [things[0], field_text(things[1]), field_text(things[2])]
    elif word == "touch":
        side, sweep = things
        texts = [str(number) for number in [side, *sweep]]
    else:
        texts = [str(number) for number in things]
    return " ".join([word, name, *texts])


def verses_text(verses):
    """The verses of a book within a row."""
    return ";".join([".".join(verse) for verse in verses])


def field_text(rows):
    """A field within a row."""
    return "/".join([",".join([str(card) for card in cards]) if cards else "-" for cards in rows])


def read_hall(text):
    """The Hall that a text tells."""
    rows = text.split("\n")
    if rows[0] != HEAD:
        raise BadText(0)
    hall = Hall()
    for at, row in enumerate(rows[1:], start=1):
        word, things = read_deed(row, at)
        try:
            do_deed(hall, word, things)
        except SnatchError:
            raise BadText(at) from None
    return hall


def read_deed(row, at):
    """The word and the things of the deed that a row tells."""
    words = row.split(" ")
    word, texts = words[0], words[1:]
    if word not in FORMS or len(FORMS[word]) != len(texts):
        raise BadText(at)
    return (word, [read_thing(form, text, at) for form, text in zip(FORMS[word], texts)])


def read_thing(form, text, at):
    """The thing of this form that a text tells within a row."""
    if form == "number":
        return read_number(text, at)
    if form == "field":
        return [read_cards(cards, at) for cards in text.split("/")]
    if form == "verses":
        return [verse.split(".") for verse in text.split(";")]
    return text


def read_number(text, at):
    """The number that a text tells within a row."""
    figures = 1 <= len(text) <= MOST_FIGURES and all(["0" <= sign <= "9" for sign in text])
    if not figures or text != str(int(text)):
        raise BadText(at)
    return int(text)


def read_cards(text, at):
    """The cards of a row of a field that a text tells within a row."""
    return [] if text == "-" else [read_number(number, at) for number in text.split(",")]


def do_deed(hall, word, things):
    """Do a deed in the hall, by its word and its things."""
    match word:
        case "shelve":
            hall.shelve(*things)
        case "lay":
            hall.lay(*things)
        case "read":
            hall.read(*things)
        case "say":
            hall.say(*things)
        case "touch":
            hall.touch(things[0], things[1], tuple(things[2:]))
        case "close":
            hall.close(*things)
        case "hush":
            hall.hush(*things)
        case "send":
            hall.send(*things)
        case "waive":
            hall.waive(*things)
        case "move":
            hall.move(*things)
        case "strike":
            hall.strike(*things)
        case "fold":
            hall.fold(*things)
